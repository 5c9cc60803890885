package code_test

import (
	"math"
	"math/rand"
	"slices"
	"strings"

	"calamus/api"
)

// someExprs are small mappings of all Ops.
func someExprs() []api.Expr {
	return []api.Expr{
		id, toText, toNum, sum, count, get(""), get("a"), get("\u00e9"), tag(""), tag("id"), tag("a b"), get(strings.Repeat("a", 64)),
		record(""), record("a", id), record("a b", id, get("a")), cases(""), cases("a", id), cases("b a", sum, tag("x")),
		mapOf(id), mapOf(mapOf(sum)), pipe(id, id), pipe(id, sum, id), pipe(pipe(id, sum), count), pipe(id, pipe(sum, count)),
		constant(null), constant(flag(false)), constant(flag(true)), constant(number("0", 0)), constant(number("15", -1)), constant(text("")), constant(text("a\x00\"")), constant(text(strings.Repeat("a", 4096))),
		record("a b", pipe(get("a"), mapOf(toNum), sum), cases("x", constant(number("1", 0)))),
	}
}

// noExprs are structs that are no mappings, each for a reason of its own.
func noExprs() []api.Expr {
	return []api.Expr{
		{}, step(-1), step(13), step(math.MaxInt), step(math.MinInt), {Name: "a"}, {List: []api.Expr{id}},
		{Op: api.OpId, Name: "a"}, {Op: api.OpSum, Names: []string{"a"}}, {Op: api.OpCount, List: []api.Expr{id}}, {Op: api.OpToNum, Value: null}, {Op: api.OpToText, Name: "\xff"}, {Op: api.OpId, Value: api.Value{Flag: true}},
		get("\xff"), tag("a\xc3"), {Op: api.OpGet, Name: "a", Names: []string{"a"}}, {Op: api.OpGet, Name: "a", List: []api.Expr{id}}, {Op: api.OpTag, Name: "a", Value: number("1", 0)}, {Op: api.OpTag, Names: []string{"a"}},
		record("a"), record("", id), record("a b", id), record("a", id, id), record("a a", id, id), record("a b a", id, id, id), record("\xff", id), {Op: api.OpRecord, Name: "a"}, {Op: api.OpRecord, Value: null},
		cases("a"), cases("", id), cases("a b", id), cases("a", id, id), cases("a a", id, id), cases("a \xff", id, id), {Op: api.OpCase, Name: "a"}, {Op: api.OpCase, Value: null},
		{Op: api.OpMap}, {Op: api.OpMap, List: []api.Expr{id, id}}, {Op: api.OpMap, Name: "a", List: []api.Expr{id}}, {Op: api.OpMap, Names: []string{"a"}, List: []api.Expr{id}}, {Op: api.OpMap, List: []api.Expr{id}, Value: null},
		pipe(), pipe(id), {Op: api.OpPipe, Name: "a", List: []api.Expr{id, id}}, {Op: api.OpPipe, Names: []string{"a", "b"}, List: []api.Expr{id, id}}, {Op: api.OpPipe, List: []api.Expr{id, id}, Value: null},
		{Op: api.OpConst}, {Op: api.OpConst, Name: "a", Value: null}, {Op: api.OpConst, Names: []string{"a"}, Value: null}, {Op: api.OpConst, List: []api.Expr{id}, Value: null},
		constant(list()), constant(list(null)), constant(raw("a")), constant(api.Value{Kind: api.KindFloat, Bits: 1}), constant(text("\xff")), constant(number("10", 0)), constant(number("1", 401)), constant(number(strings.Repeat("9", 41), 0)), constant(api.Value{Kind: api.KindNull, List: []api.Value{null}}), constant(api.Value{Kind: api.KindNull, Names: []string{"a"}}),
		constant(api.Value{Kind: api.KindRecord, Names: []string{"a"}, List: []api.Value{null}}), constant(api.Value{Kind: api.KindTag, Text: "a", List: []api.Value{null}}), constant(api.Value{Kind: api.KindBool, Bits: 1}),
	}
}

// overExprs are mappings that pass a limit.
func overExprs() []api.Expr {
	return []api.Expr{get(strings.Repeat("a", 65)), tag(strings.Repeat("\u00e9", 33)), record("a "+strings.Repeat("a", 65), id, id), cases(strings.Repeat("a", 65), id), within(16, id), pipe(slices.Repeat([]api.Expr{id}, 512)...), constant(text(strings.Repeat("a", 4097))), wide(api.OpRecord, 257), wide(api.OpCase, 257)}
}

// places are ways in which a mapping may stand within another one, first or last, beside others, and deep.
func places() []func(e api.Expr) api.Expr {
	return []func(e api.Expr) api.Expr{
		func(e api.Expr) api.Expr { return e },
		mapOf,
		func(e api.Expr) api.Expr { return pipe(e, id) },
		func(e api.Expr) api.Expr { return pipe(id, sum, e) },
		func(e api.Expr) api.Expr { return pipe(pipe(id, e), pipe(e, id)) },
		func(e api.Expr) api.Expr { return record("a b c", id, e, count) },
		func(e api.Expr) api.Expr { return cases("a", e) },
		func(e api.Expr) api.Expr { return cases("a b", get("a"), mapOf(record("a", e))) },
		func(e api.Expr) api.Expr { return within(11, e) },
	}
}

func someName(r *rand.Rand) string {
	return []string{"", "a", "b", "c", "d", "id", "tag", "a b", "\u00e9", "\x00", strings.Repeat("n", 64)}[r.Intn(11)]
}

// someExpr makes a mapping of up to depth deep.
func someExpr(r *rand.Rand, depth int) api.Expr {
	few := func(least int) []api.Expr {
		var l []api.Expr
		for range least + r.Intn(3) {
			l = append(l, someExpr(r, depth-1))
		}
		return l
	}
	k := r.Intn(12)
	if depth < 2 {
		k = 4 + r.Intn(8)
	}
	switch k {
	case 0:
		return mapOf(someExpr(r, depth-1))
	case 1:
		return pipe(few(2)...)
	case 2, 3:
		e := api.Expr{Op: []api.Op{api.OpRecord, api.OpCase}[k-2], List: few(0)}
		for range e.List { // now and then two are alike
			e.Names = append(e.Names, someName(r))
		}
		return e
	case 4:
		return get(someName(r))
	case 5:
		return tag(someName(r))
	case 6:
		return constant([]api.Value{null, flag(true), flag(false), number("0", 0), number("15", -3), text(""), text("a\n")}[r.Intn(7)])
	}
	return []api.Expr{id, toText, toNum, sum, count}[r.Intn(5)]
}

// clone is l in memory of its own.
func clone(l []api.Node) []api.Node {
	l = slices.Clone(l)
	for i, n := range l {
		l[i].Names, l[i].Kids = slices.Clone(n.Names), slices.Clone(n.Kids)
	}
	return l
}

// changed is a row in which something is changed, most likely so that it is no program.
func changed(r *rand.Rand, l []api.Node) []api.Node {
	l = clone(l)
	i := r.Intn(len(l))
	n := &l[i]
	switch r.Intn(12) {
	case 0: // a node less
		return slices.Delete(l, i, i+1)
	case 1: // a node more
		return slices.Insert(l, i, l[r.Intn(len(l))])
	case 2: // others' places
		k := r.Intn(len(l))
		l[i], l[k] = l[k], l[i]
	case 3: // another kid
		if len(n.Kids) > 0 {
			n.Kids[r.Intn(len(n.Kids))] += []int{-1, 1, -len(l), len(l), math.MinInt, math.MaxInt}[r.Intn(6)]
		}
	case 4: // a kid more
		n.Kids = slices.Insert(n.Kids, r.Intn(len(n.Kids)+1), r.Intn(len(l)+2)-1)
	case 5: // a kid less
		if len(n.Kids) > 0 {
			k := r.Intn(len(n.Kids))
			n.Kids = slices.Delete(n.Kids, k, k+1)
		}
	case 6: // kids in another order
		r.Shuffle(len(n.Kids), func(i, k int) { n.Kids[i], n.Kids[k] = n.Kids[k], n.Kids[i] })
	case 7:
		n.Op = api.Op(r.Intn(15) - 1)
	case 8:
		n.Name += []string{"a", "\xff", strings.Repeat("a", 65)}[r.Intn(3)]
	case 9:
		n.Names = append(n.Names, []string{"a", "\xff", strings.Repeat("a", 65)}[r.Intn(3)])
	case 10:
		n.Value = []api.Value{null, text("\xff"), {Kind: api.KindNum}, raw("a"), text(strings.Repeat("a", 4097))}[r.Intn(5)]
	case 11: // cut off
		return l[:i]
	}
	return l
}
