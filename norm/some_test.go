package norm_test

import (
	"math/rand"
	"slices"
	"strings"

	"calamus/api"
	"calamus/eval"
)

// leaves are mappings of all Ops that have nothing within, or need not.
func leaves() []api.Expr {
	return []api.Expr{id, toText, toNum, sum, count, get("a"), get("b"), tag("a"), tag("b"), constant(null), constant(number("5", -1)), constant(text("1")), constant(flag(true)), record(""), cases("")}
}

// smallExprs are all mappings of leaves, of one leaf with something round it, and of two leaves.
func smallExprs() []api.Expr {
	l := leaves()
	small := slices.Clone(l)
	for _, e := range l {
		small = append(small, mapOf(e), record("a", e), record("b", e), cases("a", e), cases("b", e))
		for _, f := range l {
			small = append(small, pipe(e, f), record("a b", e, f), cases("a b", e, f), cases("b a", e, f), mapOf(pipe(e, f)))
		}
	}
	return small
}

// numbers and texts are some of all sorts.
func numbers() []api.Value {
	return []api.Value{number("0", 0), number("1", 0), below("1", 0), number("5", -1), below("5", -1), number("25", 2), number("1", 400), below("1", 400), number("1", -400), number(nines, 0), below(nines, 0), number(nines, -400), number(nines, 400)}
}

func texts() []api.Value {
	return []api.Value{text(""), text("a"), text("1"), text("1.0"), text("-0.5"), text("1e401"), text("true"), text("\u00e9"), text(strings.Repeat("1", 513)), text(nines + "1"), text("1e-400")}
}

// scalars are values of each Kind that has nothing within.
func scalars() []api.Value {
	l := append(numbers(), texts()...)
	return append(l, null, flag(false), flag(true), float(0), float(0x7ff0000000000001), raw(""), raw("1"), raw("\xff"))
}

// smallValues are values of up to three levels, with the names a and b (and c, of a tag).
func smallValues() []api.Value {
	low := []api.Value{null, flag(true), number("1", 0), number("1", 400), float(0), text("a"), text("1"), raw("a"), list(), recordOf("")}
	all := append(scalars(), list(), recordOf(""))
	for i, v := range low {
		w := low[(i+3)%len(low)]
		all = append(all, tagged("c", v), list(v, w), list(w, v, v), recordOf("a b", v, w), recordOf("b a", v, w))
		for _, x := range []api.Value{list(v), recordOf("a", v), recordOf("b", v), tagged("a", v), tagged("b", v)} {
			all = append(all, x, list(x), list(v, x), tagged("a", x), recordOf("a", x))
		}
	}
	return all
}

// someNumber makes a number of few or many digits.
func someNumber(r *rand.Rand) api.Value {
	if r.Intn(4) == 0 {
		return numbers()[r.Intn(len(numbers()))]
	}
	digits := make([]byte, 1+r.Intn(1+r.Intn(40)))
	for i := range digits {
		digits[i] = byte('0' + r.Intn(10))
	}
	digits[0], digits[len(digits)-1] = byte('1'+r.Intn(9)), byte('1'+r.Intn(9))
	n := number(string(digits), r.Intn(801)-400)
	if r.Intn(2) == 0 {
		n.Num.Exp = r.Intn(9) - 4
	}
	n.Num.Neg = r.Intn(2) == 0
	return n
}

// someValue makes a value of up to depth deep with few and short names.
func someValue(r *rand.Rand, depth int) api.Value {
	if depth < 2 || r.Intn(6) == 0 {
		return someScalar(r)
	}
	switch r.Intn(4) {
	case 0:
		return someList(r, depth)
	case 1:
		return tagged([]string{"", "a", "ab", "b"}[r.Intn(4)], someValue(r, depth-1))
	}
	v := recordOf("")
	for _, i := range r.Perm(4)[:r.Intn(4)] {
		v.Names, v.List = append(v.Names, []string{"", "a", "ab", "b"}[i]), append(v.List, someValue(r, depth-1))
	}
	return v
}

func someScalar(r *rand.Rand) api.Value {
	if r.Intn(3) == 0 {
		return someNumber(r)
	}
	l := scalars()
	return l[r.Intn(len(l))]
}

// someList makes a list whose elements are not seldom alike.
func someList(r *rand.Rand, depth int) api.Value {
	v, alike := list(), r.Intn(3)
	for range r.Intn(5) {
		switch alike {
		case 0:
			v.List = append(v.List, someNumber(r))
		case 1:
			v.List = append(v.List, texts()[r.Intn(6)])
		default:
			v.List = append(v.List, someValue(r, depth-1))
		}
	}
	return v
}

// taking makes a mapping of up to depth deep that most likely takes v.
func taking(r *rand.Rand, v api.Value, depth int) api.Expr {
	if r.Intn(80) == 0 {
		return leaves()[r.Intn(len(leaves()))]
	}
	if depth < 2 {
		return takingLeaf(r, v)
	}
	switch k := r.Intn(9); {
	case k < 3 && v.Kind == api.KindList && len(v.List) > 0:
		return mapOf(taking(r, v.List[r.Intn(len(v.List))], depth-1))
	case k < 5 && v.Kind == api.KindTag:
		return api.Expr{Op: api.OpCase, Names: []string{v.Text, "more"}, List: []api.Expr{taking(r, v.List[0], depth-1), get("q")}}
	case k < 6:
		e := record("")
		for _, i := range r.Perm(4)[:r.Intn(4)] {
			e.Names, e.List = append(e.Names, []string{"", "a", "ab", "b"}[i]), append(e.List, taking(r, v, depth-1))
		}
		return e
	}
	e := pipe()
	for range 2 + r.Intn(3) {
		x := taking(r, v, depth-1)
		e.List = append(e.List, x)
		if made, bad := eval.Run(x, v); bad == api.OK {
			v = made
		}
	}
	return e
}

func takingLeaf(r *rand.Rand, v api.Value) api.Expr {
	l := leaves()
	for range 20 {
		e := l[r.Intn(len(l))]
		if e.Op == api.OpGet && len(v.Names) > 0 {
			e.Name = v.Names[r.Intn(len(v.Names))]
		}
		_, bad := eval.Run(e, v)
		if bad == api.OK && (e.Op != api.OpConst || r.Intn(4) == 0) || bad == api.ErrEvalCoerce && r.Intn(2) == 0 {
			return e
		}
	}
	return id
}

// roundabout makes a mapping that does the same as e, with what is done twice, or undone, or not asked for, here and there; most likely it takes what e takes, and it may refuse more.
func roundabout(r *rand.Rand, e api.Expr) api.Expr {
	if len(e.List) > 0 {
		e.List = slices.Clone(e.List)
		for i := range e.List {
			e.List[i] = roundabout(r, e.List[i])
		}
	}
	switch r.Intn(16) {
	case 0:
		return pipe(id, e)
	case 1:
		return pipe(e, id, pipe(id, id))
	case 2:
		return pipe(tag("t"), cases("s t", toNum, e))
	case 3:
		return pipe(e, tag("t"), cases("t", id))
	case 4:
		return pipe(record("x", e), get("x"))
	case 5:
		return pipe(record("x y z", other(r), e, other(r)), get("y"))
	case 6:
		return pipe(record("x", id), record("y", get("x")), get("y"), e)
	case 7:
		return pipe(e, idle(r))
	case 8:
		return pipe(idle(r), e)
	case 9:
		if e.Op == api.OpConst || e.Op == api.OpCount {
			return pipe(ignored(r, e.Op), e)
		}
	case 10:
		if e.Op == api.OpMap {
			return pipe(mapOf(e.List[0]), mapOf(idle(r)), mapOf(id))
		}
	}
	return e
}

// other makes a mapping of what is not asked for.
func other(r *rand.Rand) api.Expr {
	small := []api.Expr{id, tag("q"), constant(null), record(""), record("x", tag("a")), pipe(constant(text("a")), toText), pipe(constant(number("1", 0)), record("a b", toNum, toText)), toText, toNum, count, get("a"), pipe(count, toText), pipe(mapOf(id), count)}
	return small[r.Intn(len(small))]
}

// idle makes a mapping that changes nothing, or only what it may not meet here.
func idle(r *rand.Rand) api.Expr {
	small := []api.Expr{id, pipe(id, id), pipe(tag("a"), cases("a", id)), pipe(toText, toNum), toNum, toText, mapOf(id), pipe(mapOf(id), mapOf(id)), mapOf(pipe(id, id)), pipe(tag("b"), tag("a"), cases("a", cases("b", id)))}
	return small[r.Intn(len(small))]
}

// ignored makes a mapping whose work is lost on an OpConst, or on an OpCount.
func ignored(r *rand.Rand, op api.Op) api.Expr {
	e := other(r)
	if op == api.OpCount {
		return []api.Expr{mapOf(e), pipe(mapOf(id), mapOf(e)), mapOf(pipe(toText, e)), mapOf(pipe(other(r), e))}[r.Intn(4)]
	}
	return e
}

// broken is a mapping in which one struct is changed, most likely into none.
func broken(r *rand.Rand, e api.Expr) api.Expr {
	if len(e.List) > 0 && r.Intn(3) > 0 {
		e.List = slices.Clone(e.List)
		i := r.Intn(len(e.List))
		e.List[i] = broken(r, e.List[i])
		return e
	}
	switch r.Intn(6) {
	case 0:
		e.Op = api.Op(r.Intn(15) - 1)
	case 1:
		e.Name += []string{"", "a", "\xff"}[r.Intn(3)]
	case 2:
		e.Names = append(slices.Clone(e.Names), []string{"a", "\xff"}[r.Intn(2)])
	case 3:
		e.List = append(slices.Clone(e.List), id)
	case 4:
		e.Value = []api.Value{null, text("\xff"), {Kind: api.KindNum}, raw("a")}[r.Intn(4)]
	case 5:
		e.List = e.List[:len(e.List)/2]
	}
	return e
}
