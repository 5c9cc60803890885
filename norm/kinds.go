package norm

import "calamus/api"

// unknown is the Kind of values that may be of any.
const unknown api.Kind = 0

// makes is the Kind of all that e makes, as far as it is known: not of an OpPipe, which does not stay among other steps.
func makes(e api.Expr) api.Kind {
	switch e.Op {
	case api.OpRecord:
		return api.KindRecord
	case api.OpMap:
		return api.KindList
	case api.OpTag:
		return api.KindTag
	case api.OpConst:
		return e.Value.Kind
	case api.OpToText:
		return api.KindText
	case api.OpToNum, api.OpSum, api.OpCount:
		return api.KindNum
	}
	return unknown
}

// ahead is the Kind of what comes to the step at i, if what comes to the first one is of the Kind came.
func ahead(steps []api.Expr, i int, came api.Kind) api.Kind {
	if i == 0 {
		return came
	}
	return makes(steps[i-1])
}

// comes is the same of the mapping at i in e's List.
func comes(e api.Expr, i int, came api.Kind) api.Kind {
	switch e.Op {
	case api.OpRecord:
		return came
	case api.OpPipe:
		return ahead(e.List, i, came)
	}
	return unknown
}

// isIdle tells whether e makes of each value of the Kind came just that value.
func isIdle(e api.Expr, came api.Kind) bool {
	switch e.Op {
	case api.OpId:
		return true
	case api.OpToText:
		return came == api.KindText
	case api.OpToNum:
		return came == api.KindNum
	case api.OpMap:
		return came == api.KindList && e.List[0].Op == api.OpId
	}
	return false
}

// takes tells whether it is known that e refuses no value of the Kind came, limits left aside.
func takes(e api.Expr, came api.Kind) bool {
	switch e.Op {
	case api.OpGet, api.OpCase, api.OpSum:
		return false
	case api.OpToText:
		return came == api.KindBool || came == api.KindNum || came == api.KindText
	case api.OpToNum:
		return came == api.KindNum
	case api.OpMap, api.OpCount:
		if came != api.KindList {
			return false
		}
	}
	for i, x := range e.List {
		if !takes(x, comes(e, i, came)) {
			return false
		}
	}
	return true
}

// takeAll tells the same of mappings that all get what comes.
func takeAll(l []api.Expr, came api.Kind) bool {
	return takes(api.Expr{Op: api.OpRecord, List: l}, came)
}
