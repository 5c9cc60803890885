package eval_test

import (
	"math/rand"
	"slices"
	"strings"

	"calamus/api"
	"calamus/check"
)

// leaves are mappings of all Ops that have nothing within, or need not.
func leaves() []api.Expr {
	return []api.Expr{id, toText, toNum, sum, count, get("a"), get("b"), tag("a"), tag("b"), constant(null), constant(number("5", -1)), constant(text("1")), record(""), cases("")}
}

// smallExprs are all mappings of leaves, of one leaf with something round it, and of two leaves.
func smallExprs() []api.Expr {
	l := leaves()
	small := slices.Clone(l)
	for _, e := range l {
		small = append(small, mapOf(e), record("a", e), record("b", e), cases("a", e), cases("b", e))
		for _, f := range l {
			small = append(small, pipe(e, f), record("a b", e, f), cases("a b", e, f), cases("b a", e, f), mapOf(pipe(e, f)))
		}
	}
	return small
}

// numbers and texts are some of all sorts.
func numbers() []api.Value {
	return []api.Value{number("0", 0), number("1", 0), below("1", 0), number("5", -1), below("5", -1), number("25", 2), number("1", 400), below("1", 400), number("1", -400), number(nines, 0), below(nines, 0), number(nines, -400), number(nines, 400)}
}

func texts() []api.Value {
	return []api.Value{text(""), text("a"), text("1"), text("1.0"), text("-0.5"), text("1e401"), text("true"), text("\u00e9"), text(strings.Repeat("1", 513)), text(nines + "1"), text("1e-400")}
}

// scalars are values of each Kind that has nothing within.
func scalars() []api.Value {
	l := append(numbers(), texts()...)
	return append(l, null, flag(false), flag(true), float(0), float(1), float(0x7ff0000000000001), raw(""), raw("1"), raw("\xff"))
}

// smallValues are all values of up to two levels, with the names a and b (and c, of a tag), and some of three.
func smallValues() []api.Value {
	low := []api.Value{null, flag(true), number("1", 0), number("5", -1), number("1", 400), float(0), text("a"), text("1"), raw("a"), list(), recordOf("")}
	all := append(scalars(), list(), recordOf(""))
	var more []api.Value
	for _, v := range low {
		around := []api.Value{list(v), recordOf("a", v), recordOf("b", v), tagged("a", v), tagged("b", v)}
		all = append(append(all, around...), tagged("c", v), tagged("", v))
		for _, w := range around {
			more = append(more, list(w), list(v, w), tagged("a", w), recordOf("a", w), recordOf("b a", w, v))
		}
		for _, w := range low {
			all = append(all, list(v, w), recordOf("a b", v, w), recordOf("b a", v, w))
		}
	}
	return append(all, more...)
}

// someNumber makes a number of few or many digits.
func someNumber(r *rand.Rand) api.Value {
	if r.Intn(4) == 0 {
		return numbers()[r.Intn(len(numbers()))]
	}
	digits := make([]byte, 1+r.Intn(1+r.Intn(40)))
	for i := range digits {
		digits[i] = byte('0' + r.Intn(10))
	}
	digits[0], digits[len(digits)-1] = byte('1'+r.Intn(9)), byte('1'+r.Intn(9))
	n := number(string(digits), r.Intn(801)-400)
	if r.Intn(2) == 0 {
		n.Num.Exp = r.Intn(9) - 4
	}
	n.Num.Neg = r.Intn(2) == 0
	return n
}

// someValue makes a value of up to depth deep with few and short names.
func someValue(r *rand.Rand, depth int) api.Value {
	if depth < 2 || r.Intn(6) == 0 {
		return someScalar(r)
	}
	switch r.Intn(4) {
	case 0:
		return someList(r, depth)
	case 1:
		return tagged([]string{"", "a", "ab", "b"}[r.Intn(4)], someValue(r, depth-1))
	}
	v := recordOf("")
	for _, i := range r.Perm(4)[:r.Intn(4)] {
		v.Names, v.List = append(v.Names, []string{"", "a", "ab", "b"}[i]), append(v.List, someValue(r, depth-1))
	}
	return v
}

func someScalar(r *rand.Rand) api.Value {
	if r.Intn(3) == 0 {
		return someNumber(r)
	}
	l := scalars()
	return l[r.Intn(len(l))]
}

// someList makes a list whose elements are not seldom alike.
func someList(r *rand.Rand, depth int) api.Value {
	v, alike := list(), r.Intn(3)
	for range r.Intn(5) {
		switch alike {
		case 0:
			v.List = append(v.List, someNumber(r))
		case 1:
			v.List = append(v.List, texts()[r.Intn(6)])
		default:
			v.List = append(v.List, someValue(r, depth-1))
		}
	}
	return v
}

// taking makes a mapping of up to depth deep that most likely takes v.
func taking(r *rand.Rand, v api.Value, depth int) api.Expr {
	if r.Intn(80) == 0 {
		return leaves()[r.Intn(14)]
	}
	if depth < 2 {
		return takingLeaf(r, v)
	}
	switch k := r.Intn(9); {
	case k < 3 && v.Kind == api.KindList && len(v.List) > 0:
		return mapOf(taking(r, v.List[r.Intn(len(v.List))], depth-1))
	case k < 5 && v.Kind == api.KindTag:
		return api.Expr{Op: api.OpCase, Names: []string{v.Text, "more"}, List: []api.Expr{taking(r, v.List[0], depth-1), get("q")}}
	case k < 6:
		e := record("")
		for _, i := range r.Perm(4)[:r.Intn(4)] {
			e.Names, e.List = append(e.Names, []string{"", "a", "ab", "b"}[i]), append(e.List, taking(r, v, depth-1))
		}
		return e
	}
	e := pipe()
	for range 2 + r.Intn(3) {
		x := taking(r, v, depth-1)
		e.List = append(e.List, x)
		if made, bad := reckon(x, v); bad == api.OK {
			v = made
		}
	}
	return e
}

func takingLeaf(r *rand.Rand, v api.Value) api.Expr {
	l := leaves()
	for range 20 {
		e := l[r.Intn(len(l))]
		if e.Op == api.OpGet && len(v.Names) > 0 {
			e.Name = v.Names[r.Intn(len(v.Names))]
		}
		_, bad := reckon(e, v)
		if bad == api.OK && (e.Op != api.OpConst || r.Intn(4) == 0) || bad == api.ErrEvalCoerce && r.Intn(2) == 0 {
			return e
		}
	}
	return id
}

// broken is a mapping in which one struct is changed, most likely into none.
func broken(r *rand.Rand, e api.Expr) api.Expr {
	if len(e.List) > 0 && r.Intn(3) > 0 {
		e.List = slices.Clone(e.List)
		i := r.Intn(len(e.List))
		e.List[i] = broken(r, e.List[i])
		return e
	}
	switch r.Intn(6) {
	case 0:
		e.Op = api.Op(r.Intn(15) - 1)
	case 1:
		e.Name += []string{"", "a", "\xff"}[r.Intn(3)]
	case 2:
		e.Names = append(slices.Clone(e.Names), []string{"a", "\xff"}[r.Intn(2)])
	case 3:
		e.List = append(slices.Clone(e.List), id)
	case 4:
		e.Value = []api.Value{null, text("\xff"), {Kind: api.KindNum}, raw("a")}[r.Intn(4)]
	case 5:
		e.List = e.List[:len(e.List)/2]
	}
	return e
}

// brokenValue is the same of a value.
func brokenValue(r *rand.Rand, v api.Value) api.Value {
	if len(v.List) > 0 && r.Intn(3) > 0 {
		v.List = slices.Clone(v.List)
		i := r.Intn(len(v.List))
		v.List[i] = brokenValue(r, v.List[i])
		return v
	}
	switch r.Intn(7) {
	case 0:
		v.Kind = api.Kind(r.Intn(12) - 1)
	case 1:
		v.Names = append(slices.Clone(v.Names), []string{"a", "\xff"}[r.Intn(2)])
	case 2:
		v.List = append(slices.Clone(v.List), null)
	case 3:
		v.List = v.List[:len(v.List)/2]
	case 4:
		v.Text += []string{"", "a", "\xff"}[r.Intn(3)]
	case 5:
		v.Num.Exp += r.Intn(3) - 1
	case 6:
		v.Flag = !v.Flag
	}
	return v
}

func kind(k api.TypeKind) api.Type { return api.Type{Kind: k} }

// someType makes a type of up to depth deep with few and short names.
func someType(r *rand.Rand, depth int) api.Type {
	if depth < 2 || r.Intn(4) == 0 {
		return kind(api.TypeAny + api.TypeKind(r.Intn(8)))
	}
	if r.Intn(3) == 0 {
		return api.Type{Kind: api.TypeList, List: []api.Type{someType(r, depth-1)}}
	}
	t := kind(api.TypeRecord + api.TypeKind(r.Intn(2)))
	for _, i := range r.Perm(4)[:r.Intn(4)] {
		t.Names, t.List = append(t.Names, []string{"", "a", "ab", "b"}[i]), append(t.List, someType(r, depth-1))
	}
	return t
}

// someOf makes a value of t, most likely one of few, or answers false, if it knows none: a union without names has none.
func someOf(r *rand.Rand, t api.Type) (api.Value, bool) {
	switch t.Kind {
	case api.TypeList:
		v := list()
		for range r.Intn(3) {
			if w, ok := someOf(r, t.List[0]); ok {
				v.List = append(v.List, w)
			}
		}
		return v, true
	case api.TypeRecord:
		v := api.Value{Kind: api.KindRecord, Names: t.Names}
		for _, u := range t.List {
			w, ok := someOf(r, u)
			if !ok {
				return v, false
			}
			v.List = append(v.List, w)
		}
		return v, true
	case api.TypeUnion:
		if len(t.Names) == 0 {
			return null, false
		}
		i := r.Intn(len(t.Names))
		w, ok := someOf(r, t.List[i])
		return tagged(t.Names[i], w), ok
	}
	return somePlain(r, t.Kind), true
}

// somePlain makes a value of a type without parts.
func somePlain(r *rand.Rand, k api.TypeKind) api.Value {
	of := func(l ...api.Value) api.Value { return l[r.Intn(len(l))] }
	switch k {
	case api.TypeNull:
		return null
	case api.TypeBool:
		return flag(r.Intn(2) == 0)
	case api.TypeNum:
		return of(append(numbers(), someNumber(r))...)
	case api.TypeInt:
		return of(number("0", 0), number("1", 0), below("1", 0), number("25", 2), number(nines, 0), number("1", 400))
	case api.TypeFloat:
		return float(uint64(r.Intn(3)))
	case api.TypeText:
		return of(texts()...)
	case api.TypeBytes:
		return of(raw(""), raw("1"), raw("\xff"))
	}
	return someValue(r, 2)
}

// fitting makes a mapping of up to depth deep that most likely fits t, and is not seldom lossless there.
func fitting(r *rand.Rand, t api.Type, depth int) api.Expr {
	if depth < 2 {
		return fittingLeaf(r, t)
	}
	switch k := r.Intn(8); {
	case k < 3 && t.Kind == api.TypeList:
		return mapOf(fitting(r, t.List[0], depth-1))
	case k < 5 && t.Kind == api.TypeUnion:
		return fittingCase(r, t, depth)
	case k < 5 && t.Kind == api.TypeRecord:
		return rebuilt(r, t, depth)
	case k < 6:
		e := record("")
		for _, i := range r.Perm(4)[:r.Intn(3)] {
			e.Names, e.List = append(e.Names, []string{"", "a", "ab", "b"}[i]), append(e.List, fitting(r, t, depth-1))
		}
		return e
	}
	e := pipe()
	for range 2 + r.Intn(2) {
		x := fitting(r, t, depth-1)
		e.List = append(e.List, x)
		if made, bad := check.Infer(t, x); bad == api.OK {
			t = made.Type
		}
	}
	return e
}

func fittingLeaf(r *rand.Rand, t api.Type) api.Expr {
	l := leaves()
	for range 20 {
		e := l[r.Intn(len(l))]
		if e.Op == api.OpGet && len(t.Names) > 0 {
			e.Name = t.Names[r.Intn(len(t.Names))]
		}
		if e.Op == api.OpTag {
			e.Name = []string{"a", "b", "c", "d", "e"}[r.Intn(5)]
		}
		if _, bad := check.Infer(t, e); bad == api.OK && (e.Op != api.OpConst || t.Kind == api.TypeNull || r.Intn(3) == 0) {
			return e
		}
	}
	return id
}

// fittingCase makes an OpCase whose branches not seldom end in tags of their own.
func fittingCase(r *rand.Rand, t api.Type, depth int) api.Expr {
	e, own := cases(""), r.Intn(2) == 0
	for _, i := range r.Perm(len(t.Names)) {
		x := fitting(r, t.List[i], depth-1)
		if own {
			x = pipe(fitting(r, t.List[i], depth-2), tag("x"+t.Names[i]))
		}
		e.Names, e.List = append(e.Names, t.Names[i]), append(e.List, x)
	}
	return e
}

// rebuilt makes an OpRecord of what a record has, most of it.
func rebuilt(r *rand.Rand, t api.Type, depth int) api.Expr {
	e := record("")
	for _, i := range r.Perm(len(t.Names)) {
		x := get(t.Names[i])
		switch r.Intn(6) {
		case 0:
			continue
		case 1, 2, 3:
			x = pipe(x, fitting(r, t.List[i], depth-2))
		}
		e.Names, e.List = append(e.Names, "x"+t.Names[i]), append(e.List, x)
	}
	return e
}
