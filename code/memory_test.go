package code_test

import (
	"fmt"
	"math/rand"
	"slices"
	"testing"

	"calamus/api"
	"calamus/code"
	"calamus/value"
)

// roomyNames and roomyValue are copies whose lists have spare room, in which something stands; so are those of the mappings and rows that hold them.
func roomyNames(l []string) []string { return append(slices.Clone(l), "spare", "\xff")[:len(l)] }

func roomyValue(v api.Value) api.Value {
	v.Names, v.List = roomyNames(v.Names), append(slices.Clone(v.List), text("spare"))[:len(v.List)]
	return v
}

func roomyExpr(e api.Expr) api.Expr {
	var l []api.Expr
	for _, x := range e.List {
		l = append(l, roomyExpr(x))
	}
	l = append(l, api.Expr{Op: 99}, get("spare"))
	e.Names, e.List, e.Value = roomyNames(e.Names), l[:len(e.List)], roomyValue(e.Value)
	return e
}

func roomyRow(l []api.Node) []api.Node {
	var room []api.Node
	for _, n := range l {
		n.Names, n.Kids, n.Value = roomyNames(n.Names), append(slices.Clone(n.Kids), 1, -99)[:len(n.Kids)], roomyValue(n.Value)
		room = append(room, n)
	}
	return append(room, api.Node{Op: 99}, api.Node{Op: api.OpId})[:len(l)]
}

// allValue, allExpr and allRow tell all that is held, with what stands in the spare room.
func allValue(v api.Value) string {
	return fmt.Sprintf("%d %v %v %d %q %q %d %v", v.Kind, v.Flag, v.Num, v.Bits, v.Text, v.Names[:cap(v.Names)], len(v.List), v.List[:cap(v.List)])
}

func allExpr(e api.Expr) string {
	s := fmt.Sprintf("%d %q %q %d %d %s(", e.Op, e.Name, e.Names[:cap(e.Names)], len(e.Names), len(e.List), allValue(e.Value))
	for _, x := range e.List[:cap(e.List)] {
		s += allExpr(x)
	}
	return s + ")"
}

func allRow(l []api.Node) string {
	s := fmt.Sprint(len(l))
	for _, n := range l[:cap(l)] {
		s += fmt.Sprintf("; %d %q %q %d %v %d %s", n.Op, n.Name, n.Names[:cap(n.Names)], len(n.Names), n.Kids[:cap(n.Kids)], len(n.Kids), allValue(n.Value))
	}
	return s
}

// spoilNames and the like write over all that an answer holds, spare room and all, and ask that it was not written over through another list of the same answer.
func spoilNames(t *testing.T, l []string) {
	t.Helper()
	l = l[:cap(l)]
	for i := range l {
		if l[i] == "spoilt" {
			t.Errorf("R2: lists of one answer share memory")
		}
		l[i] = "spoilt"
	}
}

func spoilValue(t *testing.T, v api.Value) {
	t.Helper()
	spoilNames(t, v.Names)
	for i := range v.List[:cap(v.List)] {
		v.List[:cap(v.List)][i] = api.Value{Kind: 99}
	}
}

func spoilExpr(t *testing.T, e api.Expr) {
	t.Helper()
	spoilNames(t, e.Names)
	spoilValue(t, e.Value)
	l := e.List[:cap(e.List)]
	for i, x := range l {
		if x.Op == 98 {
			t.Errorf("R2: lists of one answer share memory")
		}
		l[i] = api.Expr{Op: 98}
		spoilExpr(t, x)
	}
}

func spoilRow(t *testing.T, l []api.Node) {
	t.Helper()
	l = l[:cap(l)]
	for i, n := range l {
		l[i] = api.Node{Op: 98}
		spoilNames(t, n.Names)
		spoilValue(t, n.Value)
		kids := n.Kids[:cap(n.Kids)]
		for k := range kids {
			if kids[k] == -98 {
				t.Errorf("R2: lists of one answer share memory")
			}
			kids[k] = -98
		}
	}
}

// isNewRow asks that Compile neither writes into what it is given, nor minds its spare room, nor hands any of it out.
func isNewRow(t *testing.T, e api.Expr) {
	t.Helper()
	want, bad := code.Compile(e)
	room := roomyExpr(e)
	was := allExpr(room)
	got, worse := code.Compile(room)
	if bad != worse || !sameRow(got, want) {
		t.Errorf("R2: spare room counts: Compile(%s) = %s, %d, want %s, %d", short(e), short(got), worse, short(want), bad)
	}
	spoilRow(t, got)
	if allExpr(room) != was {
		t.Errorf("R2: %s is changed", short(e))
	}
	if again, worse := code.Compile(room); bad != worse || !sameRow(again, want) {
		t.Errorf("R2: %s, compiled again: %s, %d", short(e), short(again), worse)
	}
}

// isNewExpr asks the same of the calls that take a row.
func isNewExpr(t *testing.T, l []api.Node) {
	t.Helper()
	want, bad := code.Back(l)
	streams, _ := code.Streams(l)
	room := roomyRow(l)
	was := allRow(room)
	if worse := code.Check(room); worse != bad {
		t.Errorf("R2: spare room counts: Check(%s) = %d, want %d", short(l), worse, bad)
	}
	if is, worse := code.Streams(room); worse != bad || is != streams {
		t.Errorf("R2: spare room counts: Streams(%s) = %v, %d, want %v, %d", short(l), is, worse, streams, bad)
	}
	got, worse := code.Back(room)
	if bad != worse || !sameExpr(got, want) {
		t.Errorf("R2: spare room counts: Back(%s) = %s, %d, want %s, %d", short(l), short(got), worse, short(want), bad)
	}
	spoilExpr(t, got)
	if allRow(room) != was {
		t.Errorf("R2: %s is changed", short(l))
	}
	if again, worse := code.Back(room); bad != worse || !sameExpr(again, want) {
		t.Errorf("R2: Back(%s), asked again: %s, %d", short(l), short(again), worse)
	}
}

// R2: what is handed in is not written into, nor its spare room; what comes out is new memory.
func TestMemory(t *testing.T) {
	r := rand.New(rand.NewSource(182))
	for range 3000 {
		e := someExpr(r, 1+r.Intn(5))
		isNewRow(t, e)
		l := programOf(e)
		isNewExpr(t, l)
		isNewExpr(t, changed(r, l))
	}
	for _, place := range places() {
		for _, e := range slices.Concat(someExprs(), noExprs(), overExprs()) {
			isNewRow(t, place(e))
			isNewExpr(t, programOf(place(e)))
		}
	}
}

// R2: lists that are handed in may share memory with one another; those that come out do not.
func TestSharedMemory(t *testing.T) {
	names, kids, l := []string{"a", "b"}, []int{1, 2}, []api.Expr{get("a"), mapOf(id)}
	both := api.Expr{Op: api.OpRecord, Names: names, List: l}
	e := api.Expr{Op: api.OpCase, Names: names, List: []api.Expr{both, both}}
	row, bad := code.Compile(e)
	if want := programOf(e); bad != api.OK || !sameRow(row, want) {
		t.Errorf("P18.2: Compile = %s, %d, want %s", short(row), bad, short(want))
	}
	back, bad := code.Back([]api.Node{{Op: api.OpCase, Names: names, Kids: kids}, {Op: api.OpRecord}, {Op: api.OpRecord, Names: names, Kids: []int{3, 4}}, {Op: api.OpId}, {Op: api.OpId}})
	if want := (api.Expr{Op: api.OpCase, Names: names, List: []api.Expr{record(""), record("a b", id, id)}}); bad != api.OK || !sameExpr(back, want) {
		t.Errorf("P18.3: Back = %s, %d, want %s", short(back), bad, short(want))
	}
	spoilRow(t, row)
	spoilExpr(t, back)
	if names[0] != "a" || names[1] != "b" || kids[0] != 1 || kids[1] != 2 || l[0].Name != "a" || l[1].Op != api.OpMap {
		t.Errorf("R2: an answer shares memory with what was handed in")
	}
}

// R2: a program that is made longer shares no memory with another one that is.
func TestMadeLonger(t *testing.T) {
	r := rand.New(rand.NewSource(183))
	for range 500 {
		l, bad := code.Compile(someExpr(r, 1+r.Intn(5)))
		if bad != api.OK {
			continue
		}
		one, other := append(l, api.Node{Op: api.OpSum}), append(l, api.Node{Op: api.OpCount})
		if one[len(l)].Op != api.OpSum || other[len(l)].Op != api.OpCount || cap(l) != len(l) {
			t.Errorf("R2: a program of %d nodes has room for %d", len(l), cap(l))
		}
	}
}

// R4: what a mapping, or a node, does not use is zero, also where empty lists with room stand in what was handed in.
func TestBare(t *testing.T) {
	isBare := func(names []string, v api.Value, name string, op api.Op) bool {
		return len(names)+len(v.Names)+len(v.List) == 0 && (op == api.OpConst || value.Equal(v, api.Value{})) && (op == api.OpGet || op == api.OpTag || name == "")
	}
	for _, e := range []api.Expr{id, toText, toNum, sum, count, get("a"), tag("a"), record(""), cases(""), mapOf(id), constant(null), constant(text("a")), constant(number("1", 0)), constant(flag(true)), pipe(id, tag("a"), constant(null))} {
		l, bad := code.Compile(roomyExpr(e))
		back, worse := code.Back(roomyRow(l))
		if bad != api.OK || worse != api.OK {
			t.Fatalf("Compile(%s) = %d, Back = %d", short(e), bad, worse)
		}
		for _, n := range l {
			if !isBare(n.Names, n.Value, n.Name, n.Op) || cap(n.Value.Names)+cap(n.Value.List) > 0 {
				t.Errorf("R4: Compile(%s) has %#v", short(e), n)
			}
		}
		for _, x := range append([]api.Expr{back}, back.List...) {
			if !isBare(x.Names, x.Value, x.Name, x.Op) || cap(x.Value.Names)+cap(x.Value.List) > 0 {
				t.Errorf("R4: Back of %s has %#v", short(e), x)
			}
		}
	}
}
