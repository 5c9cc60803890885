package types_test

import (
	"math/rand"
	"slices"
	"strings"
	"testing"

	"calamus/api"
	"calamus/types"
)

// places are ways in which a struct may stand within types that are within the limits, as long as it is small itself.
func places() []func(t api.Type) api.Type {
	return []func(t api.Type) api.Type{
		func(t api.Type) api.Type { return t },
		listOf,
		func(t api.Type) api.Type { return recordOf("a", t) },
		func(t api.Type) api.Type { return recordOf("a b c", t, nullType, intType) },
		func(t api.Type) api.Type { return recordOf("a b c", nullType, t, intType) },
		func(t api.Type) api.Type { return unionOf("a b c", nullType, intType, t) },
		func(t api.Type) api.Type { return unionOf("a b", t, nullType) },
		func(t api.Type) api.Type { return unionOf("t", recordOf("a", listOf(unionOf("t", t)))) },
		func(t api.Type) api.Type { return under(9, recordOf("a b", unionOf("a", listOf(t)), nullType)) },
	}
}

// overPlaces are ways in which a struct may stand within what passes a limit, behind or ahead of it, or further out.
func overPlaces() []func(t api.Type) api.Type {
	long := strings.Repeat("n", 65)
	return []func(t api.Type) api.Type{
		func(t api.Type) api.Type { return recordOf("a "+long, nullType, t) },
		func(t api.Type) api.Type { return unionOf("a "+long, t, nullType) },
		func(t api.Type) api.Type { return unionOf(long, t) },
		func(t api.Type) api.Type { return recordOf("a b", unionOf(long, nullType), t) },
		func(t api.Type) api.Type { return recordOf("a b", t, unionOf(long, nullType)) },
		func(t api.Type) api.Type {
			w := wideOf(api.TypeRecord, 257, nullType)
			w.List[256] = t
			return w
		},
		func(t api.Type) api.Type {
			w := wideOf(api.TypeUnion, 300, nullType)
			w.List[0] = t
			return w
		},
		func(t api.Type) api.Type { return under(16, t) },
		func(t api.Type) api.Type { return under(300, t) },
		func(t api.Type) api.Type { return recordOf("a b", under(15, nullType), t) },
		func(t api.Type) api.Type { return recordOf("a b", sizedOf(api.TypeRecord, 4095), t) },
		func(t api.Type) api.Type { return unionOf("a b", t, sizedOf(api.TypeUnion, 4095)) },
	}
}

// wantCheck asks for Check's answer on x, wherever it stands: in what passes a limit OK gives way.
func wantCheck(t *testing.T, what string, x api.Type, want api.Errno) {
	t.Helper()
	for i, place := range places() {
		if e := types.Check(place(x)); e != want {
			t.Errorf("P11.1: %s, in place %d: Check = %d, want %d", what, i, e, want)
		}
	}
	if want == api.OK {
		want = api.ErrLimit
	}
	for i, place := range overPlaces() {
		if e := types.Check(place(x)); e != want {
			t.Errorf("P11.1: %s, in place %d beyond a limit: Check = %d, want %d", what, i, e, want)
		}
	}
}

// P11.1 of types, and of structs that are none, wherever they stand.
func TestCheckKinds(t *testing.T) {
	for _, x := range smallTypes() {
		wantCheck(t, "a small type", x, api.OK)
	}
	for i, x := range someTypes() {
		if e := types.Check(x); e != api.OK {
			t.Errorf("P11.1: type %d: Check = %d", i, e)
		}
	}
	for i, x := range noTypes() {
		wantCheck(t, "struct "+string(rune('A'+i))+" that is no type", x, api.ErrTypeForm)
	}
	for k := api.TypeKind(-20); k < 300; k++ {
		if k < 1 || k > 11 {
			wantCheck(t, "no Kind", kind(k), api.ErrTypeForm)
			wantCheck(t, "no Kind, with parts", api.Type{Kind: k, Names: []string{"a"}, List: times(1, nullType)}, api.ErrTypeForm)
		}
	}
}

// P11.1: types without parts have neither Names nor a List, whatever is in these.
func TestCheckPlain(t *testing.T) {
	for _, x := range plainTypes() {
		for _, names := range [][]string{{"a"}, {""}, {"a", "b"}, {"\xff"}} {
			wantCheck(t, "a plain type with Names", api.Type{Kind: x.Kind, Names: names}, api.ErrTypeForm)
			wantCheck(t, "a plain type with Names and a List", api.Type{Kind: x.Kind, Names: names, List: times(len(names), nullType)}, api.ErrTypeForm)
		}
		for _, l := range [][]api.Type{{x}, {nullType}, {{}}, {anyType, anyType}} {
			wantCheck(t, "a plain type with a List", api.Type{Kind: x.Kind, List: l}, api.ErrTypeForm)
		}
	}
}

// P11.1: a list without elements may be nil or not.
func TestCheckNil(t *testing.T) {
	for k := api.TypeAny; k <= api.TypeUnion; k++ {
		want := api.OK
		if k == api.TypeList {
			want = api.ErrTypeForm
		}
		wantCheck(t, "both nil", api.Type{Kind: k}, want)
		wantCheck(t, "no Names", api.Type{Kind: k, Names: []string{}}, want)
		wantCheck(t, "no List", api.Type{Kind: k, List: make([]api.Type, 0, 3)}, want)
		wantCheck(t, "neither", api.Type{Kind: k, Names: make([]string, 0, 3), List: []api.Type{}}, want)
	}
	wantCheck(t, "a list whose Names are not nil", api.Type{Kind: api.TypeList, Names: []string{}, List: times(1, nullType)}, api.OK)
}

// P11.1: a record and a union have as many Names as types; all of them are counted.
func TestCheckCounts(t *testing.T) {
	for _, k := range []api.TypeKind{api.TypeList, api.TypeRecord, api.TypeUnion} {
		for names := range 5 {
			for l := range 5 {
				want := api.ErrTypeForm
				if k == api.TypeList && names == 0 && l == 1 || k != api.TypeList && names == l {
					want = api.OK
				}
				wantCheck(t, "names and types", api.Type{Kind: k, Names: manyNames(0, names), List: times(l, intType)}, want)
			}
		}
	}
}

// P11.1: names are texts, and no name stands twice in one record or union.
func TestCheckNames(t *testing.T) {
	for _, k := range []api.TypeKind{api.TypeRecord, api.TypeUnion} {
		of := func(names ...string) api.Type {
			return api.Type{Kind: k, Names: names, List: times(len(names), nullType)}
		}
		for _, s := range []string{"", "\x00", "b", " ", "$", "A", "ab", "\u00e9", "\u20ac", "\ufffd", "\uffff", "\U0010ffff", "\ud7ff\ue000", "b\u00e9\U0001f600"} {
			wantCheck(t, "a name", of(s), api.OK)
			wantCheck(t, "a name behind another", of("a", s), api.OK)
			wantCheck(t, "a name twice", of(s, s), api.ErrTypeForm)
			wantCheck(t, "a name twice, apart", of(s, "a", s), api.ErrTypeForm)
		}
		for _, s := range []string{"\x80", "\xff", "a\xc3", "\xc3a", "\xc0\x80", "\xc1\xbf", "\xe0\x9f\xbf", "\xed\xa0\x80", "\xed\xbf\xbf", "\xf0\x8f\xbf\xbf", "\xf4\x90\x80\x80", "\xf8\x88\x80\x80\x80", "\xe2\x82", "\xf0\x9f\x98", "\u00e9\xa9"} {
			wantCheck(t, "no text", of(s), api.ErrTypeForm)
			wantCheck(t, "no text behind a name", of("a", s), api.ErrTypeForm)
			wantCheck(t, "no text ahead of a name", of(s, "a"), api.ErrTypeForm)
		}
		wantCheck(t, "a name in several types", api.Type{Kind: k, Names: []string{"a", "b"}, List: []api.Type{of("a", "b"), of("b", "a")}}, api.OK)
		for _, at := range []int{0, 1, 127, 254} {
			x := wideOf(k, 256, nullType)
			x.Names[255] = x.Names[at]
			wantCheck(t, "a wide type with a name twice", x, api.ErrTypeForm)
		}
	}
}

// P11.1: each limit, just met and just passed.
func TestCheckLimits(t *testing.T) {
	a := func(n int) string { return strings.Repeat("a", n) }
	short := strings.Repeat("\u00e9", 32) // bytes are counted, not characters
	for _, of := range []func(names string, l ...api.Type) api.Type{recordOf, unionOf} {
		k := of("").Kind
		for i, x := range []struct{ just, over api.Type }{
			{of(a(64), nullType), of(a(65), nullType)},
			{of("b "+a(64), nullType, nullType), of("b "+a(65), nullType, nullType)},
			{of(a(64)+" b", nullType, nullType), of(a(65)+" b", nullType, nullType)},
			{of(short, nullType), of(short+"a", nullType)},
			{wideOf(k, 256, nullType), wideOf(k, 257, nullType)},
			{under(14, of("a", nullType)), under(15, of("a", nullType))},
			{under(15, of("")), under(16, of(""))},
			{of("a b", nullType, under(14, nullType)), of("a b", nullType, under(15, nullType))},
			{of("a b", under(14, nullType), nullType), of("a b", under(15, nullType), nullType)},
			{sizedOf(k, 4096), sizedOf(k, 4097)},
			{wideOf(k, 15, wideOf(k, 256, nullType)), wideOf(k, 16, wideOf(k, 256, nullType))},
			{wideOf(k, 256, wideOf(k, 14, nullType)), wideOf(k, 256, wideOf(k, 15, nullType))},
			{wideOf(k, 5, wideOf(k, 200, nullType)), wideOf(k, 5, wideOf(k, 300, nullType))},
			{wideOf(k, 255, under(14, nullType)), wideOf(k, 255, under(16, nullType))},
		} {
			if e := types.Check(x.just); e != api.OK {
				t.Errorf("P11.1: limit %d of Kind %d, just met: Check = %d, of %d types", i, k, e, countTypes(x.just))
			}
			if e := types.Check(x.over); e != api.ErrLimit {
				t.Errorf("P11.1: limit %d of Kind %d, passed: Check = %d, of %d types", i, k, e, countTypes(x.over))
			}
		}
	}
	for i, x := range overTypes() {
		wantCheck(t, "type "+string(rune('A'+i))+" beyond a limit", x, api.ErrLimit)
	}
}

// P11.1: how many there are is counted through all kinds.
func TestCheckSizes(t *testing.T) {
	for n := 4000; n < 4200; n++ {
		want := api.OK
		if n > 4096 {
			want = api.ErrLimit
		}
		for _, k := range []api.TypeKind{api.TypeRecord, api.TypeUnion} {
			if got := countTypes(sizedOf(k, n)); got != n {
				t.Fatalf("a type of %d types has %d", n, got)
			}
			for _, x := range []api.Type{sizedOf(k, n), listOf(sizedOf(k, n-1)), under(10, sizedOf(k, n-10)), recordOf("a", sizedOf(k, n-1)), unionOf("a b", nullType, sizedOf(k, n-2))} {
				if e := types.Check(x); e != want {
					t.Errorf("P11.1: %d types: Check = %d", n, e)
				}
			}
		}
	}
}

// P11.1: how deep a type is, through all kinds, and by whichever part is the deepest.
func TestCheckDepths(t *testing.T) {
	by := places()[1:7]
	r := rand.New(rand.NewSource(111))
	for range 300 {
		x := plainTypes()[r.Intn(8)]
		for range 15 {
			x = by[r.Intn(len(by))](x)
		}
		if e := types.Check(x); e != api.OK {
			t.Errorf("P11.1: 16 deep: Check = %d", e)
		}
		if e := types.Check(by[r.Intn(len(by))](x)); e != api.ErrLimit {
			t.Errorf("P11.1: 17 deep: Check = %d", e)
		}
	}
}

// changed is x, copied, with the n-th type in it (itself is 0) put through f.
func changed(x api.Type, n int, f func(x api.Type) api.Type) api.Type {
	if n == 0 {
		return f(x)
	}
	n--
	l := slices.Clone(x.List)
	for i, u := range l {
		k := countTypes(u)
		if n < k {
			l[i] = changed(u, n, f)
			break
		}
		n -= k
	}
	x.List = l
	return x
}

// P11.1 of types of all sorts, in which some one is changed, for the worse or beyond a limit.
func TestCheckChanged(t *testing.T) {
	r := rand.New(rand.NewSource(112))
	bad, over := noTypes(), overTypes()
	put := func(x api.Type, l []api.Type) api.Type {
		return changed(x, r.Intn(countTypes(x)), func(api.Type) api.Type { return l[r.Intn(len(l))] })
	}
	for range 3000 {
		x := someType(r, 6)
		if e := types.Check(x); e != api.OK {
			t.Fatalf("P11.1: Check(%v) = %d", x, e)
		}
		big := put(x, over)
		if e := types.Check(big); e != api.ErrLimit {
			t.Fatalf("P11.1: beyond a limit: Check = %d", e)
		}
		if worse := put(x, bad); types.Check(worse) != api.ErrTypeForm {
			t.Fatalf("P11.1: Check(%v) = %d", worse, types.Check(worse))
		}
		if e := types.Check(put(big, bad)); e != api.ErrTypeForm {
			t.Fatalf("P11.1: beyond a limit, and no type: Check = %d", e)
		}
	}
}
