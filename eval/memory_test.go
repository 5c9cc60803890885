package eval_test

import (
	"fmt"
	"math/rand"
	"slices"
	"testing"

	"calamus/api"
	"calamus/eval"
	"calamus/value"
)

// roomyExpr and roomyValue are copies whose lists have spare room, in which something stands.
func roomyExpr(e api.Expr) api.Expr {
	names := append(slices.Clone(e.Names), "spare", "\xff")
	var l []api.Expr
	for _, x := range e.List {
		l = append(l, roomyExpr(x))
	}
	l = append(l, api.Expr{Op: 99}, get("spare"))
	e.Names, e.List = names[:len(e.Names)], l[:len(e.List)]
	e.Value = roomyValue(e.Value)
	return e
}

func roomyValue(v api.Value) api.Value {
	names := append(slices.Clone(v.Names), "spare", "\xff")
	var l []api.Value
	for _, w := range v.List {
		l = append(l, roomyValue(w))
	}
	l = append(l, text("spare"), api.Value{Kind: 99})
	v.Names, v.List = names[:len(v.Names)], l[:len(v.List)]
	return v
}

// allExpr and allValue tell all that a struct holds, with what stands in the spare room.
func allExpr(e api.Expr) string {
	s := fmt.Sprintf("%d %q %q %d %d %s(", e.Op, e.Name, e.Names[:cap(e.Names)], len(e.Names), len(e.List), allValue(e.Value))
	for _, x := range e.List[:cap(e.List)] {
		s += allExpr(x)
	}
	return s + ")"
}

func allValue(v api.Value) string {
	s := fmt.Sprintf("%d %v %v %d %q %q %d %d(", v.Kind, v.Flag, v.Num, v.Bits, v.Text, v.Names[:cap(v.Names)], len(v.Names), len(v.List))
	for _, w := range v.List[:cap(v.List)] {
		s += allValue(w)
	}
	return s + ")"
}

// spoil writes over all that v holds, spare room and all, and asks that it was not written over through another list of v.
func spoil(t *testing.T, v api.Value) {
	t.Helper()
	names, l := v.Names[:cap(v.Names)], v.List[:cap(v.List)]
	for i := range names {
		if names[i] == "spoilt" {
			t.Errorf("R2: lists of one answer share memory")
		}
		names[i] = "spoilt"
	}
	for i := range l {
		if l[i].Kind == 99 {
			t.Errorf("R2: lists of one answer share memory")
		}
		w := l[i]
		l[i] = api.Value{Kind: 99}
		spoil(t, w)
	}
}

// isNew asks that Run neither writes into what it is given, nor minds its spare room, nor hands any of it out.
func isNew(t *testing.T, e api.Expr, v api.Value) {
	t.Helper()
	want, bad := eval.Run(e, v)
	roomE, room := roomyExpr(e), roomyValue(v)
	wasE, was := allExpr(roomE), allValue(room)
	got, worse := eval.Run(roomE, room)
	if bad != worse || !value.Equal(got, want) {
		t.Errorf("R2: spare room counts: %s, %s: %s, %d, want %s, %d", short(e), short(v), short(got), worse, short(want), bad)
	}
	if allExpr(roomE) != wasE || allValue(room) != was {
		t.Errorf("R2: %s or %s is changed", short(e), short(v))
	}
	spoil(t, got)
	if allExpr(roomE) != wasE || allValue(room) != was {
		t.Errorf("R2: what Run makes of %s and %s shares memory with them", short(e), short(v))
	}
	if again, worse := eval.Run(roomE, room); bad != worse || !value.Equal(again, want) {
		t.Errorf("R2: %s and %s, asked again: %s, %d", short(e), short(v), short(again), worse)
	}
}

// R2: what is handed in is not written into, nor its spare room; what comes out is new memory.
func TestMemory(t *testing.T) {
	r := rand.New(rand.NewSource(168))
	for range 4000 {
		v := someValue(r, 1+r.Intn(5))
		e := taking(r, v, 1+r.Intn(5))
		if r.Intn(10) == 0 {
			e = broken(r, e)
		}
		if r.Intn(10) == 0 {
			v = brokenValue(r, v)
		}
		isNew(t, e, v)
	}
	in := valueOf(t, `{"a":{"$tag":["p",[{"x":1,"y":"q"},{"x":2,"y":"r"}]]},"b":[1,2,3],"c":{}}`)
	for _, s := range []string{
		"id", ".a", ".c", "{x=id,y=id}", "{x=.a,y=.a,z={x=.a}}", "tag t", "tag t;case{t=id}", ".a;case{p=id}", ".a;case{p=[.x]}", ".a;case{p=[{x=id,y=id,z=.x}]}",
		"{x=.a;tag t,y=.a;tag t}", "tag t;tag s;{x=id,y=id};.x", "{x=const 1,y=const 1}", "{}", ".b;{x=sum,y=count,z=id,w=[id]}", ".b;[{x=id}]", ".b;[{}]", "{a=id,b=id};{a=id,b=id};{a=.a,b=.a}", `{x=const "a",y=const null}`,
	} {
		isNew(t, mappingOf(t, s), in)
	}
}

// R2: lists that are handed in may share memory with one another; those that come out do not.
func TestSharedMemory(t *testing.T) {
	parts, names := []api.Value{number("1", 0), list(text("x"))}, []string{"a", "b"}
	pair := api.Value{Kind: api.KindRecord, Names: names, List: parts}
	in := api.Value{Kind: api.KindRecord, Names: names, List: []api.Value{pair, {Kind: api.KindList, List: parts}}}
	exprs := []api.Expr{get("a"), id}
	for _, e := range []api.Expr{id, {Op: api.OpRecord, Names: names, List: exprs}, {Op: api.OpRecord, Names: names, List: []api.Expr{{Op: api.OpRecord, Names: names, List: exprs}, pipe(get("b"), mapOf(api.Expr{Op: api.OpRecord, Names: names, List: []api.Expr{id, id}}))}}} {
		want, _ := reckon(e, in)
		was := allValue(want)
		got, bad := eval.Run(e, in)
		if bad != api.OK || !value.Equal(got, want) {
			t.Errorf("P16.1: %s: %s, %d", short(e), short(got), bad)
		}
		spoil(t, got)
		if allValue(want) != was || names[0] != "a" || parts[0].Kind != api.KindNum || exprs[0].Name != "a" {
			t.Errorf("R2: what Run makes of %s shares memory with it", short(e))
		}
	}
}

// R4: what a value that is made has no meaning for is zero.
func TestMadeIsBare(t *testing.T) {
	for _, v := range []api.Value{null, number("1", 0), text("a"), list()} {
		v.Names, v.List = []string{}, []api.Value{}
		for _, e := range []api.Expr{id, pipe(tag("a"), cases("a", id)), constant(api.Value{Kind: api.KindNull, Names: []string{}, List: []api.Value{}})} {
			got, bad := eval.Run(e, v)
			if bad != api.OK || value.Check(got) != api.OK || len(got.Names) != 0 || len(got.List) != 0 {
				t.Errorf("R4: Run(%s, %s) = %#v, %d", short(e), short(v), got, bad)
			}
		}
	}
	wantMade(t, toNum, text("1"), number("1", 0)) // no Text
	wantMade(t, toText, number("1", 0), text("1"))
	wantMade(t, toText, flag(true), text("true"))
	wantMade(t, count, list(null), number("1", 0))
}

// R1: what is nested as deep as it may be is answered, too.
func TestVeryDeep(t *testing.T) {
	const n = 1<<16 - 1
	wantRefused(t, id, under(n, null), api.ErrLimit)
	wantRefused(t, id, under(n, api.Value{}), api.ErrValueForm)
	wantRefused(t, within(n, id), under(n, api.Value{}), api.ErrLimit)
	wantRefused(t, within(n, api.Expr{}), null, api.ErrLangForm)
}
