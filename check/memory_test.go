package check_test

import (
	"fmt"
	"math/rand"
	"slices"
	"testing"

	"calamus/api"
	"calamus/check"
)

// roomyExpr and roomyType are copies whose lists have spare room, in which something stands.
func roomyExpr(e api.Expr) api.Expr {
	names := append(slices.Clone(e.Names), "spare", "\xff")
	var l []api.Expr
	for _, x := range e.List {
		l = append(l, roomyExpr(x))
	}
	l = append(l, api.Expr{Op: 99}, get("spare"))
	e.Names, e.List = names[:len(e.Names)], l[:len(e.List)]
	return e
}

func roomyType(t api.Type) api.Type {
	names := append(slices.Clone(t.Names), "spare", "\xff")
	var l []api.Type
	for _, x := range t.List {
		l = append(l, roomyType(x))
	}
	l = append(l, api.Type{Kind: 99}, recordOf("spare", nullType))
	t.Names, t.List = names[:len(t.Names)], l[:len(t.List)]
	return t
}

// allExpr and allType tell all that a struct holds, with what stands in the spare room.
func allExpr(e api.Expr) string {
	s := fmt.Sprintf("%d %q %q %v %d %d(", e.Op, e.Name, e.Names[:cap(e.Names)], e.Value, len(e.Names), len(e.List))
	for _, x := range e.List[:cap(e.List)] {
		s += allExpr(x)
	}
	return s + ")"
}

func allType(t api.Type) string {
	s := fmt.Sprintf("%d %q %d %d(", t.Kind, t.Names[:cap(t.Names)], len(t.Names), len(t.List))
	for _, x := range t.List[:cap(t.List)] {
		s += allType(x)
	}
	return s + ")"
}

// spoil writes over all that x holds, spare room and all, and asks that it was not written over through another list of x.
func spoil(t *testing.T, x api.Type) {
	t.Helper()
	names, l := x.Names[:cap(x.Names)], x.List[:cap(x.List)]
	for i := range names {
		if names[i] == "spoilt" {
			t.Errorf("R2: lists of one answer share memory")
		}
		names[i] = "spoilt"
	}
	for i := range l {
		if l[i].Kind == 99 {
			t.Errorf("R2: lists of one answer share memory")
		}
		u := l[i]
		l[i] = api.Type{Kind: 99}
		spoil(t, u)
	}
}

// isNew asks that Infer neither writes into what it is given, nor minds its spare room, nor hands any of it out.
func isNew(t *testing.T, x api.Type, e api.Expr) {
	t.Helper()
	want, bad := check.Infer(x, e)
	room, roomE := roomyType(x), roomyExpr(e)
	was, wasE := allType(room), allExpr(roomE)
	got, worse := check.Infer(room, roomE)
	if bad != worse || !sameType(got.Type, want.Type) || got.Lossless != want.Lossless {
		t.Errorf("R2: spare room counts: %s, %s: %v, %d, want %v, %d", short(x), short(e), got, worse, want, bad)
	}
	if allType(room) != was || allExpr(roomE) != wasE {
		t.Errorf("R2: %s or %s is changed", short(x), short(e))
	}
	spoil(t, got.Type)
	if allType(room) != was || allExpr(roomE) != wasE {
		t.Errorf("R2: what Infer makes of %s and %s shares memory with them", short(x), short(e))
	}
	if again, worse := check.Infer(room, roomE); bad != worse || !sameType(again.Type, want.Type) || again.Lossless != want.Lossless {
		t.Errorf("R2: %s and %s, asked again: %v, %d", short(x), short(e), again, worse)
	}
}

// R2: what is handed in is not written into, nor its spare room; what comes out is new memory.
func TestMemory(t *testing.T) {
	r := rand.New(rand.NewSource(156))
	for range 8000 {
		x := someType(r, 1+r.Intn(5))
		e := fitting(r, x, 1+r.Intn(5))
		if r.Intn(10) == 0 {
			e = broken(r, e)
		}
		isNew(t, x, e)
	}
	in := typeOf(t, "record{a:union{p:list(record{x:int,y:text})},b:union{q:list(int)}}")
	for _, s := range []string{
		"id", ".a", "{x=id,y=id}", "{x=.a,y=.a,z={x=.a}}", "tag t", "tag t;case{t=id}", ".a;case{p=id}", ".a;case{p=[.x]}",
		"{x=.a;tag t,y=.a;tag t}", ".a;tag t;case{t=case{p=tag u}}", "tag t;tag s;{x=id,y=id};.x", ".a;{x=id,y=id}", "{x=const 1,y=const 1}", "{}", ".b;case{q={x=sum,y=count,z=id}}",
	} {
		isNew(t, in, mappingOf(t, s))
	}
	isNew(t, typeOf(t, "union{a:union{x:record{p:int}},b:union{y:record{p:int}},c:union{x:record{p:num}}}"), mappingOf(t, "case{a=id,b=id,c=id}"))
}

// R2: lists that are handed in may share memory with one another; those that come out do not.
func TestSharedMemory(t *testing.T) {
	parts, names := []api.Type{intType, listOf(textType)}, []string{"a", "b"}
	pair := api.Type{Kind: api.TypeRecord, Names: names, List: parts}
	in := api.Type{Kind: api.TypeRecord, Names: names, List: []api.Type{pair, {Kind: api.TypeUnion, Names: names, List: parts}}}
	for _, e := range []api.Expr{id, {Op: api.OpRecord, Names: names, List: []api.Expr{id, id}}, {Op: api.OpRecord, Names: names, List: []api.Expr{get("a"), {Op: api.OpRecord, Names: names, List: []api.Expr{id, id}}}}} {
		want, _ := reckonMakes(in, e)
		was := allType(want)
		got, bad := check.Infer(in, e)
		if bad != api.OK || !sameType(got.Type, want) {
			t.Errorf("P15.1: %s: %v, %d", short(e), got, bad)
		}
		spoil(t, got.Type)
		if allType(want) != was || names[0] != "a" || parts[0].Kind != api.TypeInt {
			t.Errorf("R2: what Infer makes of %s shares memory with it", short(e))
		}
	}
}

// R4: what a type that is made has no meaning for is zero.
func TestMadeIsBare(t *testing.T) {
	for _, k := range []api.TypeKind{api.TypeAny, api.TypeNum, api.TypeInt} {
		empty := api.Type{Kind: k, Names: []string{}, List: []api.Type{}}
		if got, bad := check.Infer(empty, id); bad != api.OK || got.Type.Kind != k || len(got.Type.Names) != 0 || len(got.Type.List) != 0 {
			t.Errorf("R4: %#v, %d", got, bad)
		}
	}
}

// R1: what is nested as deep as it may be is answered, too.
func TestVeryDeep(t *testing.T) {
	const n = 1<<16 - 1
	wantRefused(t, under(n, intType), id, api.ErrLimit)
	wantRefused(t, under(n, api.Type{}), within(n, id), api.ErrTypeForm)
	wantRefused(t, intType, within(n, id), api.ErrLimit)
	wantRefused(t, intType, within(n, api.Expr{}), api.ErrLangForm)
}
