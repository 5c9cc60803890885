package check

import (
	"slices"

	"calamus/api"
)

// rule is a row of the chapter's table.
type rule struct {
	fits   func(s step) bool                           // as far as it hangs on no mapping within
	within func(c checker, s step) ([]step, api.Errno) // goes through those, if it fits so far
	makes  func(s step) api.Type                       // of what those make
	safe   func(s step) bool
	apart  func(s step) bool
}

// rules is the chapter's table.
func rules() map[api.Op]rule {
	return map[api.Op]rule{
		api.OpId:     {always, nothing, same, always, always},
		api.OpGet:    {hasName, nothing, ofName, always, hasOneName},
		api.OpRecord: {always, allAtOnce, record, allSafe, isRecordApart},
		api.OpMap:    {is(api.TypeList), onElements, list, allSafe, allApart},
		api.OpTag:    {always, nothing, union, always, always},
		api.OpCase:   {hasBranches, onBranches, joined, allSafe, areBranchesApart},
		api.OpConst:  {always, nothing, ofValue, always, is(api.TypeNull)},
		api.OpToText: {is(api.TypeBool, api.TypeNum, api.TypeInt, api.TypeText), nothing, plain(api.TypeText), always, always},
		api.OpToNum:  {is(api.TypeNum, api.TypeInt, api.TypeText), nothing, number, is(api.TypeNum, api.TypeInt), is(api.TypeNum, api.TypeInt)},
		api.OpSum:    {isOfNumbers, nothing, element, never, never},
		api.OpCount:  {is(api.TypeList), nothing, plain(api.TypeInt), always, never},
		api.OpPipe:   {always, inTurn, last, allSafe, allApart},
	}
}

func always(step) bool { return true }

func never(step) bool { return false }

// is asks for a type of one of the kinds.
func is(kinds ...api.TypeKind) func(s step) bool {
	return func(s step) bool { return slices.Contains(kinds, s.in.Kind) }
}

// hasName asks for a record that has the name of an OpGet.
func hasName(s step) bool {
	return s.in.Kind == api.TypeRecord && slices.Contains(s.in.Names, s.expr.Name)
}

// hasBranches asks for a union whose names an OpCase has, all of them.
func hasBranches(s step) bool {
	return s.in.Kind == api.TypeUnion && !slices.ContainsFunc(s.in.Names, func(name string) bool {
		return !slices.Contains(s.expr.Names, name)
	})
}

// isOfNumbers asks for a list of num or int.
func isOfNumbers(s step) bool {
	if s.in.Kind != api.TypeList {
		return false
	}
	k := element(s).Kind
	return k == api.TypeNum || k == api.TypeInt
}

// nothing is within.
func nothing(checker, step) ([]step, api.Errno) { return nil, api.OK }

// allAtOnce goes through mappings that all take what comes.
func allAtOnce(c checker, s step) ([]step, api.Errno) {
	return c.each(s.expr.List, slices.Repeat([]api.Type{s.in}, len(s.expr.List)))
}

// onElements goes through the mapping that takes a list's elements.
func onElements(c checker, s step) ([]step, api.Errno) {
	return c.each(s.expr.List, s.in.List)
}

// onBranches goes through the mappings of the union's names, in the order of these: those of other names are not asked.
func onBranches(c checker, s step) ([]step, api.Errno) {
	var l []api.Expr
	for _, name := range s.in.Names {
		l = append(l, s.expr.List[slices.Index(s.expr.Names, name)])
	}
	return c.each(l, s.in.List)
}

// inTurn goes through mappings that each take what the one ahead makes.
func inTurn(c checker, s step) ([]step, api.Errno) {
	var steps []step
	t := s.in
	for _, e := range s.expr.List {
		next, bad := c.infer(t, e)
		if bad != api.OK {
			return nil, bad
		}
		steps = append(steps, next)
		t = next.makes
	}
	return steps, api.OK
}
