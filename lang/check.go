package lang

import (
	"slices"

	"calamus/api"
	"calamus/value"
)

// Check is P14.1.
func Check(e api.Expr) api.Errno {
	if !every(e, isBare) || !every(e, isFilled) {
		return api.ErrLangForm
	}
	if !every(e, isShort) || depth(e) > api.MaxNest || size(e) > api.MaxNodes {
		return api.ErrLimit
	}
	return api.OK
}

// every tells whether e, and all within, are such structs.
func every(e api.Expr, such func(e api.Expr) bool) bool {
	return such(e) && !slices.ContainsFunc(e.List, func(x api.Expr) bool { return !every(x, such) })
}

// isBare tells whether there is such an Op, and what it does not use is zero.
func isBare(e api.Expr) bool {
	switch e.Op { // what it uses is made zero, too: e is a copy
	case api.OpId, api.OpToText, api.OpToNum, api.OpSum, api.OpCount:
	case api.OpGet, api.OpTag:
		e.Name = ""
	case api.OpRecord, api.OpCase:
		e.Names, e.List = nil, nil
	case api.OpMap, api.OpPipe:
		e.List = nil
	case api.OpConst:
		e.Value = api.Value{}
	default:
		return false
	}
	return e.Name == "" && len(e.Names) == 0 && len(e.List) == 0 && value.Equal(e.Value, api.Value{})
}

// isFilled tells whether what e's Op uses may stand in a mapping; what is within e.List is not looked at.
func isFilled(e api.Expr) bool {
	switch e.Op {
	case api.OpMap:
		return len(e.List) == 1
	case api.OpPipe:
		return len(e.List) >= 2
	case api.OpConst:
		if !isConst(e.Value.Kind) {
			return false
		}
	}
	return value.Check(likeness(e)) != api.ErrValueForm
}

// isConst tells whether a Value of that Kind may stand in a mapping.
func isConst(k api.Kind) bool {
	switch k {
	case api.KindNull, api.KindBool, api.KindNum, api.KindText:
		return true
	}
	return false
}

// isShort tells whether no name of e, and no text in its Value, is too long, and its Names are not too many.
func isShort(e api.Expr) bool {
	return value.Check(likeness(e)) == api.OK
}

// likeness is a value with e's names, or its Value: what chapter 14 asks of these, and which limits they have, is what values ask of theirs.
func likeness(e api.Expr) api.Value {
	null := api.Value{Kind: api.KindNull}
	switch e.Op {
	case api.OpGet, api.OpTag:
		return api.Value{Kind: api.KindTag, Text: e.Name, List: []api.Value{null}}
	case api.OpRecord, api.OpCase:
		return api.Value{Kind: api.KindRecord, Names: e.Names, List: slices.Repeat([]api.Value{null}, len(e.List))}
	case api.OpConst:
		return e.Value
	}
	return null
}

// depth tells how deep e is: 1, if nothing is within.
func depth(e api.Expr) int {
	most := 0
	for _, x := range e.List {
		most = max(most, depth(x))
	}
	return 1 + most
}

// size tells how many mappings are in e, itself too.
func size(e api.Expr) int {
	n := 1
	for _, x := range e.List {
		n += size(x)
	}
	return n
}
