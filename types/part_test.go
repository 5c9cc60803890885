package types_test

import (
	"math/rand"
	"testing"

	"calamus/api"
	"calamus/types"
)

// wantSub asks for Sub's answer.
func wantSub(t *testing.T, a, b api.Type, want bool) {
	t.Helper()
	if is, e := types.Sub(a, b); is != want || e != api.OK {
		t.Errorf("P11.3: Sub(%v, %v) = %v, %d, want %v", a, b, is, e, want)
	}
}

// P11.3: types without parts.
func TestSubPlain(t *testing.T) {
	for _, a := range plainTypes() {
		for _, b := range plainTypes() {
			wantSub(t, a, b, a.Kind == b.Kind || b.Kind == api.TypeAny || a.Kind == api.TypeInt && b.Kind == api.TypeNum)
		}
		for _, b := range []api.Type{listOf(a), listOf(anyType), recordOf(""), recordOf("a", a), unionOf(""), unionOf("a", a)} {
			wantSub(t, a, b, false)
			wantSub(t, b, a, a.Kind == api.TypeAny)
		}
	}
	for _, a := range append(someTypes(), smallTypes()...) {
		wantSub(t, a, anyType, true)
		wantSub(t, anyType, a, a.Kind == api.TypeAny)
	}
}

// P11.3: lists and records, part by part.
func TestSubByPlace(t *testing.T) {
	wantSub(t, listOf(intType), listOf(numType), true)
	wantSub(t, listOf(numType), listOf(intType), false)
	wantSub(t, listOf(listOf(intType)), listOf(anyType), true)
	wantSub(t, listOf(listOf(intType)), listOf(listOf(textType)), false)
	wantSub(t, listOf(unionOf("")), listOf(intType), false)
	wantSub(t, under(15, intType), under(15, numType), true)
	wantSub(t, under(15, intType), under(14, anyType), true)
	wantSub(t, under(14, intType), under(15, intType), false)
	ab := recordOf("a b", intType, textType)
	for _, b := range []api.Type{ab, recordOf("a b", numType, textType), recordOf("a b", intType, anyType), recordOf("a b", anyType, anyType)} {
		wantSub(t, ab, b, true)
	}
	for _, b := range []api.Type{
		recordOf("b a", textType, intType), recordOf("b a", intType, textType), recordOf("b a", anyType, anyType), recordOf("a b", textType, intType), recordOf("a b", numType, intType),
		recordOf("a", intType), recordOf("a b c", intType, textType, anyType), recordOf("", nil...), recordOf("a B", intType, textType), unionOf("a b", intType, textType), listOf(anyType),
	} {
		wantSub(t, ab, b, false)
	}
	wantSub(t, recordOf(""), recordOf(""), true)
	wantSub(t, recordOf(""), recordOf("a", anyType), false)
	wantSub(t, recordOf("a", anyType), recordOf(""), false)
	wantSub(t, recordOf(""), unionOf(""), false)
	wantSub(t, unionOf(""), recordOf(""), false)
	for at := range 256 {
		a, b := wideOf(api.TypeRecord, 256, intType), wideOf(api.TypeRecord, 256, numType)
		wantSub(t, a, b, true)
		b.List[at] = textType
		wantSub(t, a, b, false)
	}
}

// P11.3: unions, by their names, in whatever order.
func TestSubUnions(t *testing.T) {
	ab := unionOf("a b", intType, textType)
	for _, b := range []api.Type{
		ab, unionOf("b a", textType, intType), unionOf("a b", numType, textType), unionOf("c b d a", nullType, anyType, boolType, numType), anyType,
	} {
		wantSub(t, ab, b, true)
	}
	for _, b := range []api.Type{
		unionOf(""), unionOf("a", intType), unionOf("b", textType), unionOf("a c", intType, textType), unionOf("a b", textType, intType), unionOf("b a", intType, textType), unionOf("b a", textType, textType),
		recordOf("a b", intType, textType), listOf(ab), unionOf("A b", intType, textType),
	} {
		wantSub(t, ab, b, false)
	}
	for _, b := range []api.Type{unionOf(""), unionOf("a", nullType), ab, wideOf(api.TypeUnion, 256, nullType)} {
		wantSub(t, unionOf(""), b, true)
	}
	wantSub(t, unionOf("a", unionOf("")), unionOf(""), false) // it has no value either, but that is not asked
	wantSub(t, unionOf("a", unionOf("b a", intType, nullType)), unionOf("c a", nullType, unionOf("a b", nullType, numType)), true)
	wantSub(t, unionOf("a", unionOf("b a", intType, nullType)), unionOf("c a", nullType, unionOf("a b", nullType, textType)), false)
	wantSub(t, listOf(unionOf("a", intType)), listOf(unionOf("b a", intType, numType)), true)
	wantSub(t, recordOf("x", unionOf("a", intType)), recordOf("x", unionOf("b a", intType, numType)), true)
	whole := wideOf(api.TypeUnion, 256, intType)
	for at := range 256 {
		one := api.Type{Kind: api.TypeUnion, Names: whole.Names[at : at+1], List: whole.List[at : at+1]}
		wantSub(t, one, whole, true)
		wantSub(t, whole, one, false)
		but := wideOf(api.TypeUnion, 256, numType)
		but.List[at] = boolType
		wantSub(t, whole, but, false)
		wantSub(t, one, but, false)
	}
}

// P11.3 of all pairs of small types.
func TestSubSmall(t *testing.T) {
	all := smallTypes()
	n := 0
	for _, a := range all {
		for _, b := range all {
			want := reckonPart(a, b)
			wantSub(t, a, b, want)
			if want {
				n++
			}
		}
	}
	if n < 2000 {
		t.Errorf("only %d pairs are part of one another", n)
	}
}

// P11.3 of types of all sorts, one of which is made wider by the words, and then changed in one place.
func TestSubOfMany(t *testing.T) {
	r := rand.New(rand.NewSource(115))
	var is, not int
	for range 20000 {
		a := someType(r, 5)
		b := widened(r, a)
		wantSub(t, a, b, true)
		for _, x := range [][2]api.Type{
			{b, a},
			{changed(a, r.Intn(countTypes(a)), func(api.Type) api.Type { return someType(r, 2) }), b},
			{a, changed(b, r.Intn(countTypes(b)), func(api.Type) api.Type { return someType(r, 2) })},
		} {
			want := reckonPart(x[0], x[1])
			wantSub(t, x[0], x[1], want)
			if want {
				is++
			} else {
				not++
			}
		}
	}
	if is < 2000 || not < 2000 {
		t.Errorf("only %d and %d", is, not)
	}
}

// P11.3, P11.4: Check's error of a, ahead of that of b; beside it nothing.
func TestPairErrors(t *testing.T) {
	ask := func(a, b api.Type, want api.Errno) {
		t.Helper()
		if is, e := types.Sub(a, b); is || e != want {
			t.Errorf("P11.3: Sub(Kind %d, Kind %d) = %v, %d, want %d", a.Kind, b.Kind, is, e, want)
		}
		if j, e := types.Join(a, b); !isZeroType(j) || e != want {
			t.Errorf("P11.4: Join(Kind %d, Kind %d) = %v, %d, want %d", a.Kind, b.Kind, j, e, want)
		}
	}
	good := append(someTypes(), append(plainTypes(), unionOf("a", nullType))...)
	for _, x := range noTypes() {
		for _, y := range append(good, overTypes()...) {
			ask(x, y, api.ErrTypeForm)
		}
		for _, y := range good {
			ask(y, x, api.ErrTypeForm)
		}
		for _, y := range overTypes() {
			ask(y, x, api.ErrLimit)
		}
		ask(x, x, api.ErrTypeForm)
	}
	for _, x := range overTypes() {
		for _, y := range good {
			ask(x, y, api.ErrLimit)
			ask(y, x, api.ErrLimit)
		}
		ask(x, x, api.ErrLimit)
	}
}
