package types_test

import (
	"math/rand"
	"strings"
	"testing"

	"calamus/api"
	"calamus/types"
)

// wantHas asks for Has's answer.
func wantHas(t *testing.T, x api.Type, v api.Value, want bool) {
	t.Helper()
	if is, e := types.Has(x, v); is != want || e != api.OK {
		t.Errorf("P11.2: Has(%v, %v) = %v, %d, want %v", x, v, is, e, want)
	}
}

// P11.2: which scalars the types without parts have.
func TestHasPlain(t *testing.T) {
	of := map[api.Kind]api.TypeKind{api.KindNull: api.TypeNull, api.KindBool: api.TypeBool, api.KindNum: api.TypeNum, api.KindFloat: api.TypeFloat, api.KindText: api.TypeText, api.KindBytes: api.TypeBytes}
	parts := []api.Value{list(), list(null), record(""), record("a", null), tag("a", null), tag("", number("1", 0))}
	for _, v := range append(scalars(), parts...) {
		for _, x := range plainTypes() {
			want := x.Kind == api.TypeAny || x.Kind == of[v.Kind]
			if x.Kind == api.TypeInt {
				want = v.Kind == api.KindNum && v.Num.Exp >= 0
			}
			wantHas(t, x, v, want)
		}
	}
	for _, v := range wholes() {
		wantHas(t, intType, v, true)
		wantHas(t, numType, v, true)
	}
	for _, v := range broken() {
		wantHas(t, intType, v, false)
		wantHas(t, numType, v, true)
	}
}

// P11.2: lists, whose elements are all of one type.
func TestHasLists(t *testing.T) {
	one, half := number("1", 0), number("5", -1)
	for _, x := range []api.Type{listOf(intType), listOf(anyType), listOf(unionOf("")), listOf(listOf(intType)), listOf(recordOf("a", intType))} {
		wantHas(t, x, list(), true)
		wantHas(t, x, record(""), false)
		wantHas(t, x, tag("a", list()), false)
	}
	wantHas(t, listOf(intType), list(one), true)
	wantHas(t, listOf(intType), one, false)
	wantHas(t, listOf(intType), list(list(one)), false)
	wantHas(t, listOf(anyType), list(one, null, list(text("a"), tag("t", null))), true)
	wantHas(t, listOf(unionOf("")), list(null), false)
	for at := range 5 {
		v := list(times(5, one)...)
		v.List[at] = half
		wantHas(t, listOf(intType), v, false)
		wantHas(t, listOf(numType), v, true)
		wantHas(t, listOf(listOf(intType)), list(list(), list(one), v, list(one)), false)
		wantHas(t, listOf(listOf(numType)), list(list(), list(one), v, list(one)), true)
	}
	wantHas(t, listOf(listOf(intType)), list(list(one), one), false)
	wantHas(t, listOf(intType), list(times(256, one)...), true)
	wantHas(t, listOf(intType), list(append(times(255, one), half)...), false)
	wantHas(t, under(15, intType), nested(15, one), true)
	wantHas(t, under(15, intType), nested(15, half), false)
	wantHas(t, under(14, intType), nested(15, one), false)
	wantHas(t, under(15, intType), nested(14, one), false)
	wantHas(t, under(15, intType), nested(14, list()), true)
}

// P11.2: records with just these names, in this order.
func TestHasRecords(t *testing.T) {
	one, a := number("1", 0), text("a")
	ab := recordOf("a b", intType, textType)
	wantHas(t, ab, record("a b", one, a), true)
	for _, v := range []api.Value{
		record("b a", a, one), record("b a", one, a), record("a b", a, one), record("a b", one, one), record("a b", number("5", -1), a),
		record(""), record("a", one), record("b", a), record("a b c", one, a, null), record("c a b", null, one, a), record("a c", one, a), record("A b", one, a), record("a bb", one, a),
		list(one, a), tag("a", one), one, null, text("a"),
	} {
		wantHas(t, ab, v, false)
	}
	wantHas(t, recordOf(""), record(""), true)
	wantHas(t, recordOf(""), record("a", null), false)
	wantHas(t, recordOf(""), list(), false)
	wantHas(t, recordOf("a", recordOf("a", intType)), record("a", record("a", one)), true)
	wantHas(t, recordOf("a", recordOf("a", intType)), record("a", record("b", one)), false)
	wantHas(t, recordOf("a", unionOf("")), record("a", null), false)
	wantHas(t, listOf(ab), list(record("a b", one, a), record("a b", one, a)), true)
	wantHas(t, listOf(ab), list(record("a b", one, a), record("a b", one, null)), false)
	wantHas(t, listOf(ab), list(record("a b", one, a), record("b a", a, one)), false)
	wantHas(t, listOf(ab), list(record("a b", one, a), list(one, a)), false)
	empty := api.Value{Kind: api.KindRecord, Names: []string{""}, List: []api.Value{one}}
	wantHas(t, api.Type{Kind: api.TypeRecord, Names: []string{""}, List: []api.Type{intType}}, empty, true)
	wantHas(t, recordOf("a", intType), empty, false)
}

// P11.2: tags, whose name is one of a union's.
func TestHasTags(t *testing.T) {
	one, a := number("1", 0), text("a")
	u := unionOf("a b", intType, textType)
	for _, v := range []api.Value{tag("a", one), tag("b", a), tag("b", text(""))} {
		wantHas(t, u, v, true)
	}
	for _, v := range []api.Value{
		tag("a", a), tag("b", one), tag("c", one), tag("", one), tag("A", one), tag("ab", one), tag("a", number("5", -1)), tag("a", tag("a", one)),
		text("a"), raw("a"), text("b"), one, null, list(one), record("a", one), record("a b", one, a),
	} {
		wantHas(t, u, v, false)
	}
	for _, v := range smallValues() {
		wantHas(t, unionOf(""), v, false)
	}
	wantHas(t, unionOf("a", unionOf("a", intType)), tag("a", tag("a", one)), true)
	wantHas(t, unionOf("a", unionOf("a", intType)), tag("a", tag("b", one)), false)
	wantHas(t, unionOf("a", unionOf("a", intType)), tag("a", one), false)
	wantHas(t, listOf(u), list(tag("a", one), tag("b", a), tag("a", one)), true)
	wantHas(t, listOf(u), list(tag("a", one), tag("b", one), tag("a", one)), false)
	wantHas(t, listOf(u), list(tag("a", one), tag("b", a), text("a")), false)
	named := api.Type{Kind: api.TypeUnion, Names: []string{"", "\u00e9"}, List: []api.Type{intType, textType}}
	wantHas(t, named, tag("", one), true)
	wantHas(t, named, text(""), false)
	wantHas(t, named, null, false)
	wantHas(t, named, tag("\u00e9", a), true)
	wantHas(t, named, tag("e\u0301", a), false)
}

// P11.2: each name of a great union, and values that are as many as there may be.
func TestHasMany(t *testing.T) {
	u := wideOf(api.TypeUnion, 256, nullType)
	for i := range u.List {
		u.List[i] = plainTypes()[i%8]
	}
	r := rand.New(rand.NewSource(113))
	for i, name := range u.Names {
		for k := range 8 {
			v := plainValue(r, plainTypes()[k].Kind)
			wantHas(t, u, tag(name, v), reckonHas(u.List[i], v))
		}
	}
	l := list()
	for range 8 {
		row := list()
		for i := range 255 {
			row.List = append(row.List, tag(u.Names[i], scalarOf(plainValue(r, u.List[i].Kind))))
		}
		l.List = append(l.List, row)
	}
	wantHas(t, under(2, u), l, true)
	l.List[7].List[254] = tag("none", null)
	wantHas(t, under(2, u), l, false)
}

// scalarOf is v, or null in its stead where something is within, so that there are not too many.
func scalarOf(v api.Value) api.Value {
	if len(v.List) > 0 {
		return null
	}
	return v
}

// P11.2 of all pairs of small types and small values.
func TestHasSmall(t *testing.T) {
	values := smallValues()
	n := 0
	for _, x := range smallTypes() {
		for _, v := range values {
			want := reckonHas(x, v)
			wantHas(t, x, v, want)
			if want {
				n++
			}
		}
	}
	if n < 1000 {
		t.Errorf("only %d values are of the types", n)
	}
}

// P11.2 of types of all sorts: values that are made by the type, and those with one value in them changed.
func TestHasOfMany(t *testing.T) {
	r := rand.New(rand.NewSource(114))
	var is, not int
	for range 20000 {
		x := someType(r, 5)
		v, ok := valueOf(r, x)
		if !ok {
			continue
		}
		wantHas(t, x, v, true)
		w := changedValue(v, r.Intn(countValues(v)), func(api.Value) api.Value { return anyValue(r, 2) })
		want := reckonHas(x, w)
		wantHas(t, x, w, want)
		if want {
			is++
		} else {
			not++
		}
	}
	if is < 1000 || not < 1000 {
		t.Errorf("only %d and %d", is, not)
	}
}

// P11.2: Check's error of t, ahead of value.Check's of v; and beside an error false.
func TestHasErrors(t *testing.T) {
	ask := func(x api.Type, v api.Value, want api.Errno) {
		t.Helper()
		if is, e := types.Has(x, v); is || e != want {
			t.Errorf("P11.2: Has(Kind %d, Kind %d) = %v, %d, want %d", x.Kind, v.Kind, is, e, want)
		}
	}
	for _, x := range noTypes() {
		for _, v := range append(append(noValues(), overValues()...), null, list(null), tag("a", null), record("a", null)) {
			ask(x, v, api.ErrTypeForm)
		}
	}
	for _, x := range overTypes() {
		for _, v := range append(append(noValues(), overValues()...), null, nested(15, null)) {
			ask(x, v, api.ErrLimit)
		}
	}
	for _, x := range append(someTypes(), append(plainTypes(), listOf(anyType), recordOf("a", anyType), unionOf("a", anyType))...) {
		for _, v := range noValues() {
			ask(x, v, api.ErrValueForm)
		}
		for _, v := range overValues() {
			ask(x, v, api.ErrLimit)
		}
		ask(x, list(text(strings.Repeat("a", 4097)), api.Value{}), api.ErrValueForm)
	}
}
