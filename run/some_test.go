package run_test

import (
	"math/rand"
	"slices"
	"strconv"
	"strings"

	"calamus/api"
	"calamus/eval"
)

// times is a list's elements, n times v.
func times(n int, v api.Value) []api.Value { return slices.Repeat([]api.Value{v}, n) }

// under lays n lists around v.
func under(n int, v api.Value) api.Value {
	for range n {
		v = list(v)
	}
	return v
}

// within lays n mappings over elements around e.
func within(n int, e api.Expr) api.Expr {
	for range n {
		e = mapOf(e)
	}
	return e
}

// manyNames are n names, none of them twice.
func manyNames(n int) []string {
	l := make([]string, n)
	for i := range l {
		l[i] = "n" + strconv.Itoa(i)
	}
	return l
}

// sizedOf is a list, three deep at most, with n values in it, itself too, at most one more than there may be.
func sizedOf(n int) api.Value {
	v := list()
	for n--; n > 257; n -= 257 {
		v.List = append(v.List, list(times(256, null)...))
	}
	v.List = append(v.List, times(min(n, 200), null)...)
	if n > 200 {
		v.List = append(v.List, list(times(n-201, null)...))
	}
	return v
}

// leaves are mappings of all Ops that have nothing within, or need not.
func leaves() []api.Expr {
	return []api.Expr{id, toText, toNum, sum, count, get("a"), get("b"), tag("a"), tag("b"), constant(null), constant(number("5", -1)), constant(text("1")), record(""), cases("")}
}

// smallExprs are all mappings of leaves, of one leaf with something round it, and of two leaves.
func smallExprs() []api.Expr {
	l := leaves()
	small := slices.Clone(l)
	for _, e := range l {
		small = append(small, mapOf(e), record("a", e), record("b", e), cases("a", e), cases("b", e))
		for _, f := range l {
			small = append(small, pipe(e, f), record("a b", e, f), cases("a b", e, f), cases("b a", e, f), mapOf(pipe(e, f)))
		}
	}
	return small
}

// numbers and texts are some of all sorts.
func numbers() []api.Value {
	return []api.Value{number("0", 0), number("1", 0), below("1", 0), number("5", -1), below("5", -1), number("25", 2), number("1", 400), below("1", 400), number("1", -400), number(nines, 0), below(nines, 0), number(nines, -400), number(nines, 400)}
}

func texts() []api.Value {
	return []api.Value{text(""), text("a"), text("1"), text("1.0"), text("-0.5"), text("1e401"), text("true"), text("\u00e9"), text(strings.Repeat("1", 513)), text(nines + "1"), text("1e-400")}
}

// scalars are values of each Kind that has nothing within.
func scalars() []api.Value {
	l := append(numbers(), texts()...)
	return append(l, null, flag(false), flag(true), float(0), float(1), float(0x7ff0000000000001), raw(""), raw("1"), raw("\xff"))
}

// smallValues are all values of up to two levels, with the names a and b (and c, of a tag), and some of three.
func smallValues() []api.Value {
	low := []api.Value{null, flag(true), number("1", 0), number("1", 400), float(0), text("a"), text("1"), raw("a"), list(), recordOf("")}
	all := append(scalars(), list(), recordOf(""))
	var more []api.Value
	for _, v := range low {
		around := []api.Value{list(v), recordOf("a", v), recordOf("b", v), tagged("a", v), tagged("b", v)}
		all = append(append(all, around...), tagged("c", v), tagged("", v))
		for _, w := range around {
			more = append(more, list(w), list(v, w), tagged("a", w), recordOf("a", w), recordOf("b a", w, v))
		}
		for _, w := range low {
			all = append(all, list(v, w), recordOf("a b", v, w), recordOf("b a", v, w))
		}
	}
	return append(all, more...)
}

// someNumber makes a number of few or many digits.
func someNumber(r *rand.Rand) api.Value {
	if r.Intn(4) == 0 {
		return numbers()[r.Intn(len(numbers()))]
	}
	digits := make([]byte, 1+r.Intn(1+r.Intn(40)))
	for i := range digits {
		digits[i] = byte('0' + r.Intn(10))
	}
	digits[0], digits[len(digits)-1] = byte('1'+r.Intn(9)), byte('1'+r.Intn(9))
	n := number(string(digits), r.Intn(801)-400)
	if r.Intn(2) == 0 {
		n.Num.Exp = r.Intn(9) - 4
	}
	n.Num.Neg = r.Intn(2) == 0
	return n
}

// someValue makes a value of up to depth deep with few and short names.
func someValue(r *rand.Rand, depth int) api.Value {
	if depth < 2 || r.Intn(6) == 0 {
		return someScalar(r)
	}
	switch r.Intn(4) {
	case 0:
		return someList(r, depth)
	case 1:
		return tagged([]string{"", "a", "ab", "b"}[r.Intn(4)], someValue(r, depth-1))
	}
	v := recordOf("")
	for _, i := range r.Perm(4)[:r.Intn(4)] {
		v.Names, v.List = append(v.Names, []string{"", "a", "ab", "b"}[i]), append(v.List, someValue(r, depth-1))
	}
	return v
}

func someScalar(r *rand.Rand) api.Value {
	if r.Intn(3) == 0 {
		return someNumber(r)
	}
	l := scalars()
	return l[r.Intn(len(l))]
}

// someList makes a list whose elements are not seldom alike.
func someList(r *rand.Rand, depth int) api.Value {
	v, alike := list(), r.Intn(3)
	for range r.Intn(5) {
		switch alike {
		case 0:
			v.List = append(v.List, someNumber(r))
		case 1:
			v.List = append(v.List, texts()[r.Intn(6)])
		default:
			v.List = append(v.List, someValue(r, depth-1))
		}
	}
	return v
}

// nearLimits makes a value that is deep, or large, and most likely just within the limits.
func nearLimits(r *rand.Rand) api.Value {
	if r.Intn(6) > 0 {
		v := someValue(r, 1+r.Intn(3))
		for range 10 + r.Intn(4) {
			v = []api.Value{list(v), list(null, v), tagged("a", v), recordOf("a", v), recordOf("b a", number("1", 0), v)}[r.Intn(5)]
		}
		return v
	}
	if r.Intn(2) == 0 {
		return list(someValue(r, 3), sizedOf(3500+r.Intn(600)), someValue(r, 3))
	}
	return recordOf("a b", list(sizedOf(1200), sizedOf(1+r.Intn(1500))), sizedOf(300))
}

// taking makes a mapping of up to depth deep that most likely takes v.
func taking(r *rand.Rand, v api.Value, depth int) api.Expr {
	if r.Intn(80) == 0 {
		return leaves()[r.Intn(14)]
	}
	if depth < 2 {
		return takingLeaf(r, v)
	}
	switch k := r.Intn(9); {
	case k < 3 && v.Kind == api.KindList && len(v.List) > 0:
		return mapOf(taking(r, v.List[r.Intn(len(v.List))], depth-1))
	case k < 5 && v.Kind == api.KindTag:
		return api.Expr{Op: api.OpCase, Names: []string{v.Text, "more"}, List: []api.Expr{taking(r, v.List[0], depth-1), get("q")}}
	case k < 6:
		e := record("")
		for _, i := range r.Perm(4)[:r.Intn(4)] {
			e.Names, e.List = append(e.Names, []string{"", "a", "ab", "b"}[i]), append(e.List, taking(r, v, depth-1))
		}
		return e
	}
	e := pipe()
	for range 2 + r.Intn(3) {
		x := taking(r, v, depth-1)
		e.List = append(e.List, x)
		if made, bad := eval.Run(x, v); bad == api.OK {
			v = made
		}
	}
	return e
}

func takingLeaf(r *rand.Rand, v api.Value) api.Expr {
	l := leaves()
	for range 20 {
		e := l[r.Intn(len(l))]
		if e.Op == api.OpGet && len(v.Names) > 0 {
			e.Name = v.Names[r.Intn(len(v.Names))]
		}
		_, bad := eval.Run(e, v)
		if bad == api.OK && (e.Op != api.OpConst || r.Intn(4) == 0) || bad == api.ErrEvalCoerce && r.Intn(2) == 0 {
			return e
		}
	}
	return id
}

// someExpr makes a mapping of up to depth deep that takes little.
func someExpr(r *rand.Rand, depth int) api.Expr {
	if depth < 2 {
		return leaves()[r.Intn(14)]
	}
	few := func(least int) []api.Expr {
		var l []api.Expr
		for range least + r.Intn(3) {
			l = append(l, someExpr(r, depth-1))
		}
		return l
	}
	switch k := r.Intn(4); k {
	case 0:
		return mapOf(someExpr(r, depth-1))
	case 1:
		return pipe(few(2)...)
	default:
		e := api.Expr{Op: []api.Op{api.OpRecord, api.OpCase}[k-2], List: few(0)}
		e.Names = []string{"a", "b", "ab"}[:len(e.List)]
		return e
	}
}

// changed are events of which some are left out, doubled or others, so that most likely they are no value's.
func changed(r *rand.Rand, l []api.Event) []api.Event {
	l = slices.Clone(l)
	for range 1 + r.Intn(2) {
		i := r.Intn(len(l) + 1)
		switch k := r.Intn(6); {
		case k == 0 || i == len(l):
			l = slices.Insert(l, i, alphabet()[r.Intn(len(alphabet()))])
		case k == 1:
			l = slices.Delete(l, i, i+1)
		case k == 2:
			l[i] = alphabet()[r.Intn(len(alphabet()))]
		case k == 3:
			l[i].Text += []string{"a", "\xff"}[r.Intn(2)]
		case k == 4:
			l[i].Kind += api.EventKind(r.Intn(3) - 1)
		default:
			l = l[:i]
		}
	}
	return l
}
