package norm_test

import (
	"fmt"
	"math/rand"
	"slices"
	"testing"

	"calamus/api"
	"calamus/norm"
	"calamus/value"
)

// roomyExpr and roomyValue are copies whose lists have spare room, in which something stands.
func roomyExpr(e api.Expr) api.Expr {
	names := append(slices.Clone(e.Names), "spare", "\xff")
	var l []api.Expr
	for _, x := range e.List {
		l = append(l, roomyExpr(x))
	}
	l = append(l, api.Expr{Op: 99}, get("spare"))
	e.Names, e.List = names[:len(e.Names)], l[:len(e.List)]
	e.Value = roomyValue(e.Value)
	return e
}

func roomyValue(v api.Value) api.Value {
	v.Names, v.List = append(slices.Clone(v.Names), "spare")[:len(v.Names)], append(slices.Clone(v.List), text("spare"))[:len(v.List)]
	return v
}

// allExpr tells all that a struct holds, with what stands in the spare room.
func allExpr(e api.Expr) string {
	v := e.Value
	s := fmt.Sprintf("%d %q %q %d %d %d %v %v %d %q %q %d %v(", e.Op, e.Name, e.Names[:cap(e.Names)], len(e.Names), len(e.List), v.Kind, v.Flag, v.Num, v.Bits, v.Text, v.Names[:cap(v.Names)], len(v.List), v.List[:cap(v.List)])
	for _, x := range e.List[:cap(e.List)] {
		s += allExpr(x)
	}
	return s + ")"
}

// spoil writes over all that e holds, spare room and all, and asks that it was not written over through another list of e.
func spoil(t *testing.T, e api.Expr) {
	t.Helper()
	for _, names := range [][]string{e.Names[:cap(e.Names)], e.Value.Names[:cap(e.Value.Names)]} {
		for i := range names {
			if names[i] == "spoilt" {
				t.Errorf("R2: lists of one answer share memory")
			}
			names[i] = "spoilt"
		}
	}
	for i := range e.Value.List[:cap(e.Value.List)] {
		e.Value.List[:cap(e.Value.List)][i] = api.Value{Kind: 99}
	}
	l := e.List[:cap(e.List)]
	for i := range l {
		if l[i].Op == 98 {
			t.Errorf("R2: lists of one answer share memory")
		}
		x := l[i]
		l[i] = api.Expr{Op: 98}
		spoil(t, x)
	}
}

// isNew asks that Norm neither writes into what it is given, nor minds its spare room, nor hands any of it out.
func isNew(t *testing.T, e api.Expr) {
	t.Helper()
	want, bad := norm.Norm(e)
	room := roomyExpr(e)
	was := allExpr(room)
	got, worse := norm.Norm(room)
	if bad != worse || !isAlike(got, want) {
		t.Errorf("R2: spare room counts: %s: %s, %d, want %s, %d", short(e), short(got), worse, short(want), bad)
	}
	if norm.Size(room) != norm.Size(e) {
		t.Errorf("R2: spare room counts: Size(%s) = %d", short(e), norm.Size(room))
	}
	if allExpr(room) != was {
		t.Errorf("R2: %s is changed", short(e))
	}
	spoil(t, got)
	if allExpr(room) != was {
		t.Errorf("R2: what Norm makes of %s shares memory with it", short(e))
	}
	if again, worse := norm.Norm(room); bad != worse || !isAlike(again, want) {
		t.Errorf("R2: %s, asked again: %s, %d", short(e), short(again), worse)
	}
}

// R2: what is handed in is not written into, nor its spare room; what comes out is new memory.
func TestMemory(t *testing.T) {
	r := rand.New(rand.NewSource(179))
	for range 3000 {
		e := roundabout(r, taking(r, someValue(r, 1+r.Intn(4)), 1+r.Intn(4)))
		if r.Intn(10) == 0 {
			e = broken(r, e)
		}
		isNew(t, e)
	}
	for _, s := range []string{
		"id", "id;id", ".a", "{}", "{a=.x,b=id}", "case{a=.x,b=id}", "[.a]", ".a;.b", "id;.a;.b", ".a;id;.b", ".a;.b;id", "(.a;.b);.c;(.d;.e)", "tag a;case{a=.x;.y,b=id}", ".q;tag a;case{a=.x;.y};.z", "{a=.x;.y,b=id};.a", "{b=id,a={c=.x}};.a;.q", "[.a];[.b]", "[.a;.b];[.c];.d", "[.a;tag x];count", ".q;[.a;.b;tag x];count;tag r", "const 1;const null", ".a;tag b;const true", "totext;tonum", "[id];sum", `{a=const "x",b=const null}`, "count;{a=tonum,b=tonum}",
	} {
		isNew(t, mappingOf(t, s))
	}
}

// R2: lists that are handed in may share memory with one another; those that come out do not.
func TestSharedMemory(t *testing.T) {
	names, l := []string{"a", "b"}, []api.Expr{get("a"), pipe(get("b"), get("c"))}
	both := api.Expr{Op: api.OpRecord, Names: names, List: l}
	e := api.Expr{Op: api.OpRecord, Names: names, List: []api.Expr{pipe(both, api.Expr{Op: api.OpCase, Names: names, List: l}), {Op: api.OpPipe, List: l}}}
	got := normed(t, e)
	spoil(t, got)
	if names[0] != "a" || l[0].Name != "a" || l[1].Op != api.OpPipe || l[1].List[1].Name != "c" {
		t.Errorf("R2: what Norm makes shares memory with what it is given")
	}
	wantNorm(t, e, record("a b", pipe(record("a b", get("a"), pipe(get("b"), get("c"))), cases("a b", get("a"), pipe(get("b"), get("c")))), pipe(get("a"), get("b"), get("c"))))
}

// R4: what a mapping that is told does not use is zero.
func TestMadeIsBare(t *testing.T) {
	bare := func(e api.Expr) api.Expr {
		e.Names, e.Value.Names, e.Value.List = []string{}, []string{}, []api.Value{}
		if len(e.List) == 0 {
			e.List = []api.Expr{}
		}
		return e
	}
	for _, e := range []api.Expr{id, toText, toNum, sum, count, get("a"), tag("a"), record(""), cases(""), mapOf(bare(id)), constant(null), constant(text("a")), constant(number("1", 0)), constant(flag(true)), pipe(bare(id), bare(id)), pipe(bare(tag("a")), bare(constant(null)))} {
		got := normed(t, bare(e))
		for _, x := range append([]api.Expr{got}, got.List...) {
			if len(x.Names)+len(x.Value.Names)+len(x.Value.List) > 0 || x.Op != api.OpConst && !value.Equal(x.Value, api.Value{}) || x.Op != api.OpGet && x.Op != api.OpTag && x.Name != "" {
				t.Errorf("R4: Norm(%s) = %#v", short(e), x)
			}
		}
	}
}
