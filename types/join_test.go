package types_test

import (
	"math/rand"
	"slices"
	"testing"

	"calamus/api"
	"calamus/types"
)

// wantJoin asks for Join's answer.
func wantJoin(t *testing.T, a, b, want api.Type) {
	t.Helper()
	if j, e := types.Join(a, b); !sameType(j, want) || e != api.OK {
		t.Errorf("P11.4: Join(%v, %v) = %v, %d, want %v", a, b, j, e, want)
	}
}

// P11.4: what is part of the other, and what is not and is no union.
func TestJoinPlain(t *testing.T) {
	for _, a := range plainTypes() {
		for _, b := range plainTypes() {
			want := anyType
			switch {
			case a.Kind == b.Kind:
				want = a
			case a.Kind == api.TypeInt && b.Kind == api.TypeNum || a.Kind == api.TypeNum && b.Kind == api.TypeInt:
				want = numType
			}
			wantJoin(t, a, b, want)
			wantJoin(t, listOf(a), listOf(b), joined(a, b, want, listOf))
			wantJoin(t, recordOf("a b", nullType, a), recordOf("a b", nullType, b), joined(a, b, want, func(t api.Type) api.Type { return recordOf("a b", nullType, t) }))
		}
	}
	for _, a := range append(someTypes(), smallTypes()...) {
		wantJoin(t, a, a, a)
		wantJoin(t, a, anyType, anyType)
		wantJoin(t, anyType, a, anyType)
	}
	ab := recordOf("a b", intType, textType)
	for _, b := range []api.Type{recordOf("b a", textType, intType), recordOf("a", intType), recordOf("a b c", intType, textType, nullType), recordOf("a b", numType, nullType), listOf(ab), unionOf("a b", intType, textType), unionOf(""), intType} {
		wantJoin(t, ab, b, anyType)
		wantJoin(t, b, ab, anyType)
	}
	wantJoin(t, recordOf("a b", intType, numType), recordOf("a b", numType, intType), anyType) // neither is part of the other
}

// joined is the type round want, or TypeAny, if neither a nor b is part of the other.
func joined(a, b, want api.Type, round func(t api.Type) api.Type) api.Type {
	if a.Kind != b.Kind && want.Kind == api.TypeAny && a.Kind != api.TypeAny && b.Kind != api.TypeAny {
		return anyType
	}
	return round(want)
}

// P11.4: two unions, neither of which is part of the other.
func TestJoinUnions(t *testing.T) {
	for _, x := range []struct{ a, b, want api.Type }{
		{unionOf("a", intType), unionOf("b", textType), unionOf("a b", intType, textType)},
		{unionOf("b", textType), unionOf("a", intType), unionOf("b a", textType, intType)},
		{unionOf("c a", nullType, intType), unionOf("d a b", boolType, numType, textType), unionOf("c a d b", nullType, numType, boolType, textType)},
		{unionOf("c a", nullType, numType), unionOf("d a b", boolType, intType, textType), unionOf("c a d b", nullType, numType, boolType, textType)},
		{unionOf("a b", intType, numType), unionOf("b a", intType, numType), unionOf("a b", numType, numType)},
		{unionOf("a b", numType, intType), unionOf("b a", numType, intType), unionOf("a b", numType, numType)},
		{unionOf("a b", intType, nullType), unionOf("c a", nullType, anyType), unionOf("a b c", anyType, nullType, nullType)},
		{unionOf("a b", anyType, nullType), unionOf("c a", nullType, intType), unionOf("a b c", anyType, nullType, nullType)},
		{unionOf("a b", intType, nullType), unionOf("a c", textType, nullType), anyType},
		{unionOf("a b", intType, nullType), unionOf("c a", nullType, textType), anyType},
		{unionOf("a b c", intType, nullType, boolType), unionOf("a b d", intType, boolType, boolType), anyType},
		{unionOf("a", intType), unionOf("a", textType), anyType},
		{unionOf("a b", recordOf("x", intType), nullType), unionOf("a c", recordOf("x", numType), nullType), unionOf("a b c", recordOf("x", numType), nullType, nullType)},
		{unionOf("a b", recordOf("x y", intType, numType), nullType), unionOf("a c", recordOf("x y", numType, intType), nullType), anyType},
		{unionOf("a b", unionOf("x", intType), nullType), unionOf("a c", unionOf("y", intType), nullType), anyType}, // what is within is not joined
		{unionOf("a b", unionOf("x", intType), nullType), unionOf("a c", unionOf("y x", textType, numType), nullType), unionOf("a b c", unionOf("y x", textType, numType), nullType, nullType)},
		{unionOf("a b", unionOf("x y", intType, nullType), nullType), unionOf("a c", unionOf("y x", nullType, intType), nullType), unionOf("a b c", unionOf("x y", intType, nullType), nullType, nullType)}, // either is part of the other: a's
		{listOf(unionOf("a", intType)), listOf(unionOf("b", intType)), anyType},
		{recordOf("x", unionOf("a", intType)), recordOf("x", unionOf("b", intType)), anyType},
	} {
		wantJoin(t, x.a, x.b, x.want)
	}
}

// P11.4: b, if a is part of it, also if b is part of a, too.
func TestJoinParts(t *testing.T) {
	ab, ba := unionOf("a b", intType, nullType), unionOf("b a", nullType, intType)
	wantJoin(t, ab, ba, ba)
	wantJoin(t, ba, ab, ab)
	wantJoin(t, listOf(ab), listOf(ba), listOf(ba))
	wantJoin(t, unionOf("a", intType), ba, ba)
	wantJoin(t, ba, unionOf("a", intType), ba)
	wantJoin(t, unionOf("a", intType), unionOf("b a", nullType, numType), unionOf("b a", nullType, numType))
	wantJoin(t, unionOf("b a", nullType, numType), unionOf("a", intType), unionOf("b a", nullType, numType))
	for _, x := range []api.Type{ab, wideOf(api.TypeUnion, 256, textType), sizedOf(api.TypeUnion, 4096)} {
		wantJoin(t, unionOf(""), x, x)
		wantJoin(t, x, unionOf(""), x)
	}
}

// P11.4: a union that would pass a limit is TypeAny instead.
func TestJoinLimits(t *testing.T) {
	some := func(from, n int, x api.Type) api.Type {
		return api.Type{Kind: api.TypeUnion, Names: manyNames(from, n), List: times(n, x)}
	}
	for _, n := range []int{1, 2, 100, 128, 254, 255} {
		wantJoin(t, some(0, n, intType), some(n, 256-n, intType), some(0, 256, intType))
		wantJoin(t, some(0, n, intType), some(n, 257-n, intType), anyType)
		wantJoin(t, some(0, n+1, intType), some(n, 256-n, numType), api.Type{Kind: api.TypeUnion, Names: manyNames(0, 256), List: slices.Concat(times(n, intType), times(256-n, numType))})
		wantJoin(t, some(1, n, intType), some(0, 256, numType), some(0, 256, numType))
	}
	wantJoin(t, some(0, 256, intType), some(256, 256, intType), anyType)
	wantJoin(t, some(0, 256, intType), some(1, 256, intType), anyType)
	for n := 1; n < 256; n += 3 {
		// Each of the names has 16 types: with 255 of them and a union round it that is 4081, and 15 are left.
		row := wideOf(api.TypeRecord, 15, nullType)
		last := func(k int) api.Type {
			x := some(n, 256-n, row)
			x.List[255-n] = wideOf(api.TypeRecord, k, nullType)
			return x
		}
		just := some(0, 256, row)
		just.List[255] = wideOf(api.TypeRecord, 14, nullType)
		if k := countTypes(just); k != 4096 {
			t.Fatalf("%d types", k)
		}
		wantJoin(t, some(0, n, row), last(14), just)
		wantJoin(t, some(0, n, row), last(15), anyType)
	}
	deep := under(14, intType)
	wantJoin(t, unionOf("a", deep), unionOf("b", deep), unionOf("a b", deep, deep))
	// What stands in both counts once: the wider one.
	big := sizedOf(api.TypeRecord, 3000)
	wantJoin(t, unionOf("a b", big, nullType), unionOf("a c", big, nullType), unionOf("a b c", big, nullType, nullType))
	wantJoin(t, unionOf("a b", big, nullType), unionOf("c d", big, nullType), anyType)
	wantJoin(t, unionOf("a b", big, nullType), unionOf("a c", anyType, big), unionOf("a b c", anyType, nullType, big))
	more := sizedOf(api.TypeUnion, 1000)
	wantJoin(t, unionOf("a b", anyType, nullType), unionOf("a c d", big, more, nullType), unionOf("a b c d", anyType, nullType, more, nullType))
}

// P11.4 of all pairs of small types.
func TestJoinSmall(t *testing.T) {
	all := smallTypes()
	n := 0
	for _, a := range all {
		for _, b := range all {
			want := reckonJoin(a, b)
			wantJoin(t, a, b, want)
			if want.Kind == api.TypeUnion && !sameType(want, a) && !sameType(want, b) {
				n++
			}
		}
	}
	if n < 500 {
		t.Errorf("only %d unions are made", n)
	}
}

// P11.4 of types of all sorts, and of unions of nearly the same names.
func TestJoinOfMany(t *testing.T) {
	r := rand.New(rand.NewSource(116))
	made := 0
	for range 20000 {
		a, b := someType(r, 4), someType(r, 4)
		wantJoin(t, a, b, reckonJoin(a, b))
		a, b = kind(api.TypeUnion), kind(api.TypeUnion)
		for _, i := range r.Perm(6)[:r.Intn(6)] {
			a.Names, a.List = append(a.Names, string(rune('a'+i))), append(a.List, someType(r, 3))
		}
		for _, i := range r.Perm(6)[:r.Intn(6)] {
			x := someType(r, 3)
			if k := slices.Index(a.Names, string(rune('a'+i))); k >= 0 && r.Intn(10) > 0 {
				x = a.List[k]
				if r.Intn(2) == 0 {
					a.List[k] = widened(r, x)
				} else {
					x = widened(r, x)
				}
			}
			b.Names, b.List = append(b.Names, string(rune('a'+i))), append(b.List, x)
		}
		want := reckonJoin(a, b)
		wantJoin(t, a, b, want)
		if want.Kind == api.TypeUnion && !sameType(want, a) && !sameType(want, b) {
			made++
		}
	}
	if made < 2000 {
		t.Errorf("only %d unions are made", made)
	}
}
