package types_test

import (
	"math/rand"
	"reflect"
	"slices"
	"testing"

	"calamus/api"
	"calamus/types"
)

// apart is x in memory of its own, without spare room.
func apart(x api.Type) api.Type {
	c := api.Type{Kind: x.Kind, Names: slices.Clone(x.Names)}
	for _, u := range x.List {
		c.List = append(c.List, apart(u))
	}
	return c
}

// copiedType is x in memory of its own, its spare room laid open, so that all that is held can be compared.
func copiedType(x api.Type) api.Type {
	names := append([]string(nil), x.Names[:cap(x.Names)]...)
	l := append([]api.Type(nil), x.List[:cap(x.List)]...)
	for i := range l {
		l[i] = copiedType(l[i])
	}
	x.Names, x.List = names, l
	return x
}

// roomyType is x whose lists, and those within, have spare room in which something stands.
func roomyType(x api.Type) api.Type {
	x.Names = append(append(make([]string, 0, len(x.Names)+2), x.Names...), "spare", "room")[:len(x.Names)]
	l := make([]api.Type, 0, len(x.List)+2)
	for _, u := range x.List {
		l = append(l, roomyType(u))
	}
	x.List = append(l, textType, recordOf("spare", nullType))[:len(x.List)]
	return x
}

// roomyValue is v whose lists, and those within, have spare room in which something stands.
func roomyValue(v api.Value) api.Value {
	v.Names = append(append(make([]string, 0, len(v.Names)+2), v.Names...), "spare", "room")[:len(v.Names)]
	l := make([]api.Value, 0, len(v.List)+2)
	for _, w := range v.List {
		l = append(l, roomyValue(w))
	}
	v.List = append(l, text("spare"), text("room"))[:len(v.List)]
	return v
}

// copiedValue is v in memory of its own, its spare room laid open.
func copiedValue(v api.Value) api.Value {
	names := append([]string(nil), v.Names[:cap(v.Names)]...)
	l := append([]api.Value(nil), v.List[:cap(v.List)]...)
	for i := range l {
		l[i] = copiedValue(l[i])
	}
	v.Names, v.List = names, l
	return v
}

// spoil writes over all that x holds, spare room and all, and asks that it was not written over through another list of x.
func spoil(t *testing.T, x api.Type) {
	t.Helper()
	names, l := x.Names[:cap(x.Names)], x.List[:cap(x.List)]
	for i := range names {
		if names[i] == "spoilt" {
			t.Errorf("R2: lists of one answer share memory")
		}
		names[i] = "spoilt"
	}
	for i := range l {
		if l[i].Kind == 99 {
			t.Errorf("R2: lists of one answer share memory")
		}
		u := l[i]
		l[i] = api.Type{Kind: 99}
		spoil(t, u)
	}
}

// R2: what is handed in is not written into, nor its spare room, and the spare room does not count.
func TestHandedIn(t *testing.T) {
	r := rand.New(rand.NewSource(119))
	all := append(smallTypes(), noTypes()...)
	for range 300 {
		x := someType(r, 4)
		all = append(all, x, widened(r, x))
	}
	for i, x := range all {
		y := all[(i*7+1)%len(all)]
		if i%3 == 0 && i+1 < len(all) {
			y = all[i+1]
		}
		v, _ := valueOf(r, intType)
		if types.Check(x) == api.OK {
			v, _ = valueOf(r, x)
		}
		a, b, w := roomyType(x), roomyType(y), roomyValue(v)
		wasA, wasB, wasW := copiedType(a), copiedType(b), copiedValue(w)
		has, e := types.Has(a, w)
		has2, e2 := types.Has(x, v)
		sub, f := types.Sub(a, b)
		sub2, f2 := types.Sub(x, y)
		join, g := types.Join(a, b)
		join2, g2 := types.Join(x, y)
		if types.Check(a) != types.Check(x) || has != has2 || sub != sub2 || !sameType(join, join2) || e != e2 || f != f2 || g != g2 {
			t.Errorf("R2: spare room counts in %v and %v", x, y)
		}
		if !reflect.DeepEqual(copiedType(a), wasA) || !reflect.DeepEqual(copiedType(b), wasB) || !reflect.DeepEqual(copiedValue(w), wasW) {
			t.Errorf("R2: %v, %v or %v is changed", x, y, v)
		}
		spoil(t, join)
		if !reflect.DeepEqual(copiedType(a), wasA) || !reflect.DeepEqual(copiedType(b), wasB) || g == api.OK && !sameType(join2, reckonJoin(x, y)) {
			t.Errorf("R2: the Join of %v and %v shares memory with them", x, y)
		}
	}
}

// R2: what Join answers is new, whichever of its ways it takes, also where lists that are handed in share memory.
func TestJoinIsNew(t *testing.T) {
	names := []string{"a", "b", "c", "d"}
	parts := []api.Type{listOf(intType), textType, recordOf("x y", nullType, listOf(numType)), unionOf("z", nullType)}
	shared := func(k api.TypeKind, from, to int) api.Type {
		return api.Type{Kind: k, Names: names[from:to], List: parts[from:to]}
	}
	record := api.Type{Kind: api.TypeRecord, Names: names[:2], List: []api.Type{shared(api.TypeRecord, 0, 2), shared(api.TypeUnion, 0, 4)}}
	for i, x := range [][2]api.Type{
		{record, record},
		{record, anyType},
		{listOf(shared(api.TypeRecord, 0, 4)), listOf(shared(api.TypeRecord, 0, 4))},
		{shared(api.TypeUnion, 0, 2), shared(api.TypeUnion, 0, 4)},
		{shared(api.TypeUnion, 0, 4), shared(api.TypeUnion, 0, 2)},
		{shared(api.TypeUnion, 0, 2), shared(api.TypeUnion, 2, 4)},
		{shared(api.TypeUnion, 0, 3), shared(api.TypeUnion, 1, 4)},
		{unionOf("p q", record, record), unionOf("r q", record, anyType)},
		{unionOf("p q", record, anyType), unionOf("r q", record, record)},
	} {
		wasA, wasB := copiedType(x[0]), copiedType(x[1])
		want := reckonJoin(apart(x[0]), apart(x[1]))
		j, e := types.Join(x[0], x[1])
		k, f := types.Join(x[0], x[1])
		if e != api.OK || f != api.OK || !sameType(j, want) {
			t.Fatalf("P11.4: pair %d: Join = %v, %d, %d", i, j, e, f)
		}
		spoil(t, j)
		if !reflect.DeepEqual(copiedType(x[0]), wasA) || !reflect.DeepEqual(copiedType(x[1]), wasB) {
			t.Errorf("R2: pair %d: what Join answers shares memory with what was handed in", i)
		}
		if !sameType(k, want) {
			t.Errorf("R2: pair %d: two answers of Join share memory", i)
		}
	}
}

// R4: what a field of an answer has no meaning for is zero.
func TestJoinIsBare(t *testing.T) {
	empty := func(k api.TypeKind) api.Type { return api.Type{Kind: k, Names: []string{}, List: []api.Type{}} }
	for _, x := range [][2]api.Type{{empty(api.TypeInt), empty(api.TypeNum)}, {empty(api.TypeText), empty(api.TypeText)}, {empty(api.TypeText), empty(api.TypeNull)}, {empty(api.TypeAny), empty(api.TypeRecord)}} {
		if j, e := types.Join(x[0], x[1]); e != api.OK || j.Names != nil || j.List != nil {
			t.Errorf("R4: Join = %#v, %d", j, e)
		}
	}
}

// R1: what is nested as deep as it may be is answered too.
func TestVeryDeep(t *testing.T) {
	const n = 1<<16 - 1
	deep, bad, one := under(n, nullType), under(n, api.Type{}), nested(n, null)
	if types.Check(deep) != api.ErrLimit || types.Check(bad) != api.ErrTypeForm {
		t.Errorf("P11.1: Check = %d, %d", types.Check(deep), types.Check(bad))
	}
	if is, e := types.Has(deep, one); is || e != api.ErrLimit {
		t.Errorf("P11.2: Has = %v, %d", is, e)
	}
	if is, e := types.Has(anyType, one); is || e != api.ErrLimit {
		t.Errorf("P11.2: Has = %v, %d", is, e)
	}
	if is, e := types.Sub(deep, bad); is || e != api.ErrLimit {
		t.Errorf("P11.3: Sub = %v, %d", is, e)
	}
	if j, e := types.Join(bad, deep); !isZeroType(j) || e != api.ErrTypeForm {
		t.Errorf("P11.4: Join = %v, %d", j, e)
	}
}

// R1: many names and long ones are answered, too.
func TestVeryWide(t *testing.T) {
	for _, k := range []api.TypeKind{api.TypeRecord, api.TypeUnion} {
		x := wideOf(k, 1<<14, nullType)
		if e := types.Check(x); e != api.ErrLimit {
			t.Errorf("P11.1: Check = %d", e)
		}
		x.Names[1<<14-1] = x.Names[0]
		if e := types.Check(x); e != api.ErrTypeForm {
			t.Errorf("P11.1: Check = %d", e)
		}
		long := api.Type{Kind: k, Names: []string{string(make([]byte, 1<<22))}, List: times(1, nullType)}
		if e := types.Check(long); e != api.ErrLimit {
			t.Errorf("P11.1: Check = %d", e)
		}
		if e := types.Check(api.Type{Kind: k, List: times(1<<18, nullType)}); e != api.ErrTypeForm {
			t.Errorf("P11.1: Check = %d", e)
		}
	}
}

// R2: the same is answered again and again.
func TestAgain(t *testing.T) {
	a := unionOf("a b c d e f g h", intType, nullType, textType, anyType, boolType, floatType, bytesType, numType)
	b := unionOf("i h g j a k l m n", intType, intType, anyType, nullType, numType, textType, boolType, bytesType, anyType)
	want := reckonJoin(a, b)
	for range 200 {
		wantJoin(t, a, b, want)
	}
}
