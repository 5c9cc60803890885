package types_test

import (
	"math"
	"math/rand"
	"slices"
	"strings"
	"testing"

	"calamus/api"
	"calamus/types"
)

func kind(k api.TypeKind) api.Type { return api.Type{Kind: k} }

var (
	anyType   = kind(api.TypeAny)
	nullType  = kind(api.TypeNull)
	boolType  = kind(api.TypeBool)
	numType   = kind(api.TypeNum)
	intType   = kind(api.TypeInt)
	floatType = kind(api.TypeFloat)
	textType  = kind(api.TypeText)
	bytesType = kind(api.TypeBytes)
)

// plainTypes are all types without parts.
func plainTypes() []api.Type {
	return []api.Type{anyType, nullType, boolType, numType, intType, floatType, textType, bytesType}
}

func listOf(t api.Type) api.Type { return api.Type{Kind: api.TypeList, List: []api.Type{t}} }

// recordOf has the names that are apart by a space in names.
func recordOf(names string, l ...api.Type) api.Type {
	return api.Type{Kind: api.TypeRecord, Names: strings.Fields(names), List: l}
}

// unionOf has the names that are apart by a space in names.
func unionOf(names string, l ...api.Type) api.Type {
	return api.Type{Kind: api.TypeUnion, Names: strings.Fields(names), List: l}
}

// under lays n lists around t.
func under(n int, t api.Type) api.Type {
	for range n {
		t = listOf(t)
	}
	return t
}

// times is n of x.
func times[T any](n int, x T) []T {
	l := make([]T, n)
	for i := range l {
		l[i] = x
	}
	return l
}

// manyNames are n names, none of them twice, the first of them for the number from.
func manyNames(from, n int) []string {
	l := make([]string, n)
	for i := range l {
		l[i] = string(rune(0x4e00 + from + i))
	}
	return l
}

// wideOf is a record or a union of n names, each with t.
func wideOf(k api.TypeKind, n int, t api.Type) api.Type {
	return api.Type{Kind: k, Names: manyNames(0, n), List: times(n, t)}
}

// sizedOf is a record or a union, within the other limits, with n types in it, itself too.
func sizedOf(k api.TypeKind, n int) api.Type {
	var l []api.Type
	for n--; n > 257; n -= 257 {
		l = append(l, wideOf(api.TypeRecord, 256, nullType))
	}
	l = append(l, times(min(n, 200), nullType)...)
	if n > 200 {
		l = append(l, wideOf(api.TypeRecord, n-201, nullType))
	}
	return api.Type{Kind: k, Names: manyNames(0, len(l)), List: l}
}

// sameType tells whether two types are built alike; lists without elements are alike, nil or not.
func sameType(a, b api.Type) bool {
	return a.Kind == b.Kind && slices.Equal(a.Names, b.Names) && slices.EqualFunc(a.List, b.List, sameType)
}

func isZeroType(t api.Type) bool { return t.Kind == 0 && t.Names == nil && t.List == nil }

// countTypes is how many types are in t, itself too.
func countTypes(t api.Type) int {
	n := 1
	for _, u := range t.List {
		n += countTypes(u)
	}
	return n
}

// smallTypes are all types of up to two levels with the names a and b: of each three of them there are some that are part of one another, and some that nearly are.
func smallTypes() []api.Type {
	low := append(plainTypes(), recordOf(""), unionOf(""))
	all := slices.Clone(low)
	for _, t := range low {
		all = append(all, listOf(t), recordOf("a", t), recordOf("b", t), unionOf("a", t), unionOf("b", t))
		for _, u := range low {
			all = append(all, recordOf("a b", t, u), recordOf("b a", t, u), unionOf("a b", t, u), unionOf("b a", t, u))
		}
	}
	return all
}

// someTypes are types within the limits that are no small ones: deep, wide, many, and with names of all sorts.
func someTypes() []api.Type {
	mixed := recordOf("id tags kind", intType, listOf(textType), unionOf("on off", nullType, recordOf("at", numType)))
	return []api.Type{
		mixed, listOf(mixed), unionOf("x", mixed), under(13, recordOf("a", unionOf("b", anyType))),
		under(15, intType), under(15, recordOf("")), under(14, unionOf("a", nullType)),
		wideOf(api.TypeRecord, 256, boolType), wideOf(api.TypeUnion, 256, listOf(textType)), wideOf(api.TypeUnion, 255, intType),
		sizedOf(api.TypeRecord, 4096), sizedOf(api.TypeUnion, 4096),
		recordOf(strings.Repeat("a", 64), nullType), unionOf(strings.Repeat("\u00e9", 32), nullType),
		{Kind: api.TypeRecord, Names: []string{"", " ", "\x00", "\u00e9", "e\u0301", "\U0010ffff"}, List: times(6, textType)},
		{Kind: api.TypeUnion, Names: []string{"", " ", "\x00", "\u00e9", "e\u0301", "\U0010ffff"}, List: times(6, textType)},
	}
}

// noTypes are structs that are no types, each for a reason of its own.
func noTypes() []api.Type {
	return []api.Type{
		{},
		kind(-1), kind(12), kind(math.MaxInt), kind(math.MinInt), kind(1<<32 + 1),
		{Names: []string{"a"}, List: []api.Type{nullType}},
		{Kind: api.TypeList},
		{Kind: api.TypeList, List: []api.Type{}},
		{Kind: api.TypeList, List: times(2, nullType)},
		{Kind: api.TypeList, Names: []string{"a"}, List: times(1, nullType)},
		{Kind: api.TypeList, Names: []string{""}, List: times(1, nullType)},
		recordOf("a"), recordOf("", nullType), recordOf("a b", nullType), recordOf("a", nullType, nullType),
		unionOf("a"), unionOf("", nullType), unionOf("a b", nullType), unionOf("a", nullType, nullType),
		recordOf("a a", nullType, nullType), recordOf("a b a", times(3, nullType)...), recordOf("b a a", times(3, nullType)...),
		unionOf("a a", nullType, nullType), unionOf("a b a", times(3, nullType)...), unionOf("b a a", nullType, intType, textType),
		{Kind: api.TypeRecord, Names: []string{"", ""}, List: times(2, nullType)},
		{Kind: api.TypeUnion, Names: []string{"\u00e9", "\u00e9"}, List: times(2, nullType)},
		recordOf("a \xff", nullType, nullType), unionOf("\xc3", nullType), recordOf("\xed\xa0\x80", nullType), unionOf("a\xc0\x80 b", nullType, nullType),
		{Kind: api.TypeAny, List: []api.Type{nullType}},
		{Kind: api.TypeInt, Names: []string{"a"}},
	}
}

// overTypes are types that pass a limit, each of them one alone.
func overTypes() []api.Type {
	return []api.Type{
		recordOf(strings.Repeat("a", 65), nullType), unionOf(strings.Repeat("a", 65), nullType), recordOf("b "+strings.Repeat("\u00e9", 32)+"a", nullType, nullType),
		wideOf(api.TypeRecord, 257, nullType), wideOf(api.TypeUnion, 257, nullType),
		under(16, intType), under(15, recordOf("a", nullType)), under(15, unionOf("a", nullType)),
		sizedOf(api.TypeRecord, 4097), sizedOf(api.TypeUnion, 4097),
	}
}

// someType makes a type of up to depth deep with few and short names, so that two of them are often near each other.
func someType(r *rand.Rand, depth int) api.Type {
	if depth < 2 || r.Intn(3) == 0 {
		return plainTypes()[r.Intn(8)]
	}
	if r.Intn(3) == 0 {
		return listOf(someType(r, depth-1))
	}
	t := kind(api.TypeRecord + api.TypeKind(r.Intn(2)))
	names := []string{"", "a", "ab", "b"}
	for _, i := range r.Perm(4)[:r.Intn(4)] {
		t.Names = append(t.Names, names[i])
		t.List = append(t.List, someType(r, depth-1))
	}
	return t
}

// widened is a type that t is part of, by the document's words.
func widened(r *rand.Rand, t api.Type) api.Type {
	if r.Intn(12) == 0 {
		return anyType
	}
	if t.Kind == api.TypeInt && r.Intn(2) == 0 {
		return numType
	}
	w := kind(t.Kind)
	for i, u := range t.List {
		if t.Kind != api.TypeList {
			w.Names = append(w.Names, t.Names[i])
		}
		w.List = append(w.List, widened(r, u))
	}
	if t.Kind != api.TypeUnion {
		return w
	}
	if more := "more" + string(rune('0'+r.Intn(3))); r.Intn(2) == 0 && !slices.Contains(w.Names, more) {
		w.Names, w.List = append(w.Names, more), append(w.List, someType(r, 2))
	}
	r.Shuffle(len(w.Names), func(i, k int) {
		w.Names[i], w.Names[k] = w.Names[k], w.Names[i]
		w.List[i], w.List[k] = w.List[k], w.List[i]
	})
	return w
}

// The examples of the chapter's table.
func TestExamples(t *testing.T) {
	for i, x := range []api.Type{{}, {Kind: api.TypeList}, recordOf("a a", nullType, nullType)} {
		if e := types.Check(x); e != api.ErrTypeForm {
			t.Errorf("struct %d: Check = %d", i, e)
		}
	}
	for i, x := range []struct {
		t    api.Type
		v    api.Value
		want bool
	}{
		{intType, number("5", 0), true},
		{intType, number("5", -1), false},
		{numType, number("5", 0), true},
		{anyType, null, true},
		{listOf(intType), list(number("1", 0), number("2", 0)), true},
		{recordOf("a b", intType, textType), record("b a", text("x"), number("1", 0)), false},
		{unionOf("t", nullType), tag("t", null), true},
	} {
		if is, e := types.Has(x.t, x.v); is != x.want || e != api.OK {
			t.Errorf("pair %d: Has = %v, %d", i, is, e)
		}
	}
	for i, x := range []struct {
		a, b api.Type
		want bool
	}{
		{intType, numType, true}, {numType, intType, false}, {unionOf("a", intType), unionOf("a b", numType, textType), true},
	} {
		if is, e := types.Sub(x.a, x.b); is != x.want || e != api.OK {
			t.Errorf("pair %d: Sub = %v, %d", i, is, e)
		}
	}
	for i, x := range []struct{ a, b, want api.Type }{
		{intType, numType, numType}, {intType, textType, anyType}, {unionOf("a", intType), unionOf("b", textType), unionOf("a b", intType, textType)},
	} {
		if j, e := types.Join(x.a, x.b); !sameType(j, x.want) || e != api.OK {
			t.Errorf("pair %d: Join = %v, %d", i, j, e)
		}
	}
}
