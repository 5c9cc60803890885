package lang_test

import (
	"fmt"
	"math/rand"
	"testing"

	"calamus/api"
	"calamus/lang"
)

// roomyExpr is e in memory of its own, with spare room behind each list in which no mapping stands.
func roomyExpr(e api.Expr) api.Expr {
	names := append(append([]string{}, e.Names...), "spare", "\xff")
	var l []api.Expr
	for _, x := range e.List {
		l = append(l, roomyExpr(x))
	}
	l = append(l, api.Expr{Op: 99}, api.Expr{Name: "spare"})
	e.Names, e.List = names[:len(e.Names)], l[:len(e.List)]
	return e
}

func roomyType(t api.Type) api.Type {
	names := append(append([]string{}, t.Names...), "spare", "\xff")
	var l []api.Type
	for _, x := range t.List {
		l = append(l, roomyType(x))
	}
	l = append(l, api.Type{Kind: 99}, api.Type{Names: []string{"spare"}})
	t.Names, t.List = names[:len(t.Names)], l[:len(t.List)]
	return t
}

// allExpr tells all that a struct holds, with what stands in the spare room.
func allExpr(e api.Expr) string {
	s := fmt.Sprintf("%d %q %q %v %d %d(", e.Op, e.Name, e.Names[:cap(e.Names)], e.Value, len(e.Names), len(e.List))
	for _, x := range e.List[:cap(e.List)] {
		s += allExpr(x)
	}
	return s + ")"
}

func allType(t api.Type) string {
	s := fmt.Sprintf("%d %q %d %d(", t.Kind, t.Names[:cap(t.Names)], len(t.Names), len(t.List))
	for _, x := range t.List[:cap(t.List)] {
		s += allType(x)
	}
	return s + ")"
}

// R2: what is handed in is not written into, nor its spare room, which does not count.
func TestHandedIn(t *testing.T) {
	r := rand.New(rand.NewSource(150))
	for range 3000 {
		m := someExpr(r, 1+r.Intn(4))
		if r.Intn(3) == 0 {
			m = brokenExpr(r, m)
		}
		room := roomyExpr(m)
		was := allExpr(room)
		s, e := lang.Print(room)
		if want, wantE := lang.Print(m); s != want || e != wantE || lang.Check(room) != lang.Check(m) {
			t.Errorf("R2: spare room counts: %s, %d", short(s), e)
		}
		if allExpr(room) != was {
			t.Errorf("R2: %s is changed", short(was))
		}
		x := someTypeStruct(r, 1+r.Intn(4))
		roomy := roomyType(x)
		was = allType(roomy)
		s, e = lang.PrintType(roomy)
		if want, wantE := lang.PrintType(x); s != want || e != wantE {
			t.Errorf("R2: spare room counts: %s, %d", short(s), e)
		}
		if allType(roomy) != was {
			t.Errorf("R2: %s is changed", short(was))
		}
	}
}

// spoilExpr and spoilType overwrite all that the lists of an answer hold, and their spare room.
func spoilExpr(e api.Expr) {
	for i := range e.Names[:cap(e.Names)] {
		e.Names[:cap(e.Names)][i] = "spoilt"
	}
	for _, x := range e.List {
		spoilExpr(x)
	}
	for i := range e.List[:cap(e.List)] {
		e.List[:cap(e.List)][i] = api.Expr{Op: 99}
	}
}

func spoilType(t api.Type) {
	for i := range t.Names[:cap(t.Names)] {
		t.Names[:cap(t.Names)][i] = "spoilt"
	}
	for _, x := range t.List {
		spoilType(x)
	}
	for i := range t.List[:cap(t.List)] {
		t.List[:cap(t.List)][i] = api.Type{Kind: 99}
	}
}

// R2: the lists of an answer are new memory, no two of them share any, and the answer is the same again and again.
func TestAnswersAreNew(t *testing.T) {
	const s = `{a = .x; [tonum; id]; sum, b = {c = id, d = id}, e = {c = id, d = id}, f = case {a = id, b = id}}`
	want, _, _ := lang.Parse(s)
	whole, e := lang.Print(want)
	if e != api.OK {
		t.Fatalf("Print = %d", e)
	}
	for i := range want.List { // one part is spoilt, the others stay as they are
		first, _, _ := lang.Parse(s)
		spoilExpr(first.List[i])
		for k := range first.List {
			if k != i && !sameExpr(first.List[k], want.List[k]) {
				t.Errorf("R2: parts of %s share memory", s)
			}
		}
	}
	for range 50 {
		first, _, _ := lang.Parse(s)
		spoilExpr(first)
		if second, _, _ := lang.Parse(s); !sameExpr(second, want) {
			t.Errorf("R2: Parse(%s) = %v", s, second)
		}
		if again, e := lang.Print(want); again != whole || e != api.OK {
			t.Errorf("R2: Print = %s, %d", again, e)
		}
	}
	const u = "record{a:union{x:int,y:int},b:union{x:int,y:int},c:list(record{x:int})}"
	wantT, _, _ := lang.ParseType(u)
	for range 50 {
		for i := range wantT.List {
			first, _, _ := lang.ParseType(u)
			spoilType(first.List[i])
			for k := range first.List {
				if k != i && !sameType(first.List[k], wantT.List[k]) {
					t.Errorf("R2: parts of %s share memory", u)
				}
			}
		}
		first, _, _ := lang.ParseType(u)
		spoilType(first)
		if second, _, _ := lang.ParseType(u); !sameType(second, wantT) {
			t.Errorf("R2: ParseType(%s) = %v", u, second)
		}
	}
}
