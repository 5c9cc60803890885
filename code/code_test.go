package code_test

import (
	"fmt"
	"reflect"
	"slices"
	"strconv"
	"strings"
	"testing"

	"calamus/api"
	"calamus/code"
	"calamus/lang"
	"calamus/value"
)

func step(op api.Op) api.Expr       { return api.Expr{Op: op} }
func get(name string) api.Expr      { return api.Expr{Op: api.OpGet, Name: name} }
func tag(name string) api.Expr      { return api.Expr{Op: api.OpTag, Name: name} }
func mapOf(e api.Expr) api.Expr     { return api.Expr{Op: api.OpMap, List: []api.Expr{e}} }
func pipe(l ...api.Expr) api.Expr   { return api.Expr{Op: api.OpPipe, List: l} }
func constant(v api.Value) api.Expr { return api.Expr{Op: api.OpConst, Value: v} }

// record and cases take their names with a blank between.
func record(names string, l ...api.Expr) api.Expr {
	return api.Expr{Op: api.OpRecord, Names: strings.Fields(names), List: l}
}

func cases(names string, l ...api.Expr) api.Expr {
	return api.Expr{Op: api.OpCase, Names: strings.Fields(names), List: l}
}

func flag(b bool) api.Value { return api.Value{Kind: api.KindBool, Flag: b} }

func number(digits string, exp int) api.Value {
	return api.Value{Kind: api.KindNum, Num: api.Num{Digits: digits, Exp: exp}}
}

func text(s string) api.Value { return api.Value{Kind: api.KindText, Text: s} }

func raw(s string) api.Value { return api.Value{Kind: api.KindBytes, Text: s} }

func list(l ...api.Value) api.Value { return api.Value{Kind: api.KindList, List: l} }

var (
	null = api.Value{Kind: api.KindNull}

	id, toText, toNum, sum, count = step(api.OpId), step(api.OpToText), step(api.OpToNum), step(api.OpSum), step(api.OpCount)
)

// within lays n mappings over elements around e.
func within(n int, e api.Expr) api.Expr {
	for range n {
		e = mapOf(e)
	}
	return e
}

// wide is an OpRecord or OpCase of n names.
func wide(op api.Op, n int) api.Expr {
	e := api.Expr{Op: op, List: slices.Repeat([]api.Expr{id}, n)}
	for i := range n {
		e.Names = append(e.Names, "n"+strconv.Itoa(i))
	}
	return e
}

// mappingOf is what stands in a text.
func mappingOf(t *testing.T, s string) api.Expr {
	t.Helper()
	x, e, at := lang.Parse(s)
	if e != api.OK {
		t.Fatalf("Parse(%s) = %d at %d", s, e, at)
	}
	return x
}

// short is how x is told, or the two ends of that, so that a fault can be read.
func short(x any) string {
	s := fmt.Sprint(x)
	switch y := x.(type) {
	case api.Expr:
		if p, e := lang.Print(y); e == api.OK {
			s = p
		}
	case []api.Node:
		s = ""
		for i, n := range y[:min(len(y), 50)] {
			s += fmt.Sprintf("%d: %d %q %q %v %v; ", i, n.Op, n.Name, n.Names, n.Kids, n.Value.Kind)
		}
	}
	if len(s) > 600 {
		return fmt.Sprintf("%s .. %s (%d bytes)", s[:400], s[len(s)-100:], len(s))
	}
	return s
}

// sameExpr and sameRow tell whether two are built alike; a list without elements may be nil or not.
func sameExpr(a, b api.Expr) bool {
	return a.Op == b.Op && a.Name == b.Name && slices.Equal(a.Names, b.Names) && value.Equal(a.Value, b.Value) && slices.EqualFunc(a.List, b.List, sameExpr)
}

func sameRow(a, b []api.Node) bool { return slices.EqualFunc(a, b, sameNode) }

func sameNode(a, b api.Node) bool {
	return a.Op == b.Op && a.Name == b.Name && slices.Equal(a.Names, b.Names) && slices.Equal(a.Kids, b.Kids) && value.Equal(a.Value, b.Value)
}

// programOf is a mapping's program, reckoned from the programs of those within, each moved behind the one ahead; the mapping is not looked at.
func programOf(e api.Expr) []api.Node {
	row := []api.Node{{Op: e.Op, Name: e.Name, Names: e.Names, Value: e.Value}}
	for _, x := range e.List {
		from := len(row)
		row[0].Kids = append(row[0].Kids, from)
		for _, n := range programOf(x) {
			var kids []int
			for _, kid := range n.Kids {
				kids = append(kids, kid+from)
			}
			n.Kids = kids
			row = append(row, n)
		}
	}
	return row
}

// reckoned is the mapping whose program l is, whatever its limits are: it is put together by the Kids, and its own program held against l. That it is none is told beside.
func reckoned(l []api.Node) (api.Expr, bool) {
	left := len(l) // a mapping has no more parts than its program has nodes
	var part func(at int) (api.Expr, bool)
	part = func(at int) (api.Expr, bool) {
		left--
		if at < 0 || at >= len(l) || left < 0 {
			return api.Expr{}, false
		}
		n := l[at]
		e := api.Expr{Op: n.Op, Name: n.Name, Names: n.Names, Value: n.Value}
		for _, kid := range n.Kids {
			x, ok := part(kid)
			if !ok {
				return api.Expr{}, false
			}
			e.List = append(e.List, x)
		}
		return e, true
	}
	e, ok := part(0)
	return e, ok && sameRow(programOf(e), l) && lang.Check(e) != api.ErrLangForm
}

// ask holds what all calls say of a row of nodes against what is reckoned. It tells Check's answer.
func ask(t *testing.T, l []api.Node) api.Errno {
	t.Helper()
	want, is := reckoned(l)
	wantErr := lang.Check(want)
	if !is {
		want, wantErr = api.Expr{}, api.ErrCodeForm
	}
	if bad := code.Check(l); bad != wantErr {
		t.Errorf("P18.1: Check(%s) = %d, want %d", short(l), bad, wantErr)
	}
	streams := wantErr == api.OK && !strings.Contains(holding(want), "2")
	if got, bad := code.Streams(l); got != streams || bad != wantErr {
		t.Errorf("P18.4: Streams(%s) = %v, %d, want %v, %d", short(l), got, bad, streams, wantErr)
	}
	e, bad := code.Back(l)
	if wantErr != api.OK {
		if bad != wantErr || !reflect.DeepEqual(e, api.Expr{}) {
			t.Errorf("P18.3: Back(%s) = %s, %d, want %d", short(l), short(e), bad, wantErr)
		}
		return wantErr
	}
	if bad != api.OK || !sameExpr(e, want) {
		t.Errorf("P18.3: Back(%s) = %s, %d, want %s", short(l), short(e), bad, short(want))
	}
	if again, bad := code.Compile(e); bad != api.OK || !sameRow(again, l) {
		t.Errorf("P18.5: %s is compiled to %s, %d, want %s", short(e), short(again), bad, short(l))
	}
	return wantErr
}

// holding writes 2 for each OpRecord in e that has two or more within, and 1 for each other mapping.
func holding(e api.Expr) string {
	s := "1"
	if e.Op == api.OpRecord && len(e.List) > 1 {
		s = "2"
	}
	for _, x := range e.List {
		s += holding(x)
	}
	return s
}

// compiled asks for what Compile says of e, and what the others say of that. It tells Compile's answer.
func compiled(t *testing.T, e api.Expr) ([]api.Node, api.Errno) {
	t.Helper()
	l, bad := code.Compile(e)
	if want := lang.Check(e); bad != want {
		t.Errorf("P18.2: Compile(%s) = %d, want %d", short(e), bad, want)
	}
	if bad != api.OK {
		if len(l) > 0 {
			t.Errorf("R1: Compile(%s) = %s beside an error", short(e), short(l))
		}
		return l, bad
	}
	if want := programOf(e); !sameRow(l, want) {
		t.Errorf("P18.2: Compile(%s) = %s, want %s", short(e), short(l), short(want))
	}
	if back, bad := code.Back(l); bad != api.OK || !sameExpr(back, e) {
		t.Errorf("P18.5: %s, compiled and back, is %s, %d", short(e), short(back), bad)
	}
	ask(t, l)
	return l, bad
}

// The examples of the chapter's table.
func TestExamples(t *testing.T) {
	e := mappingOf(t, ".a ; [sum]")
	want := []api.Node{{Op: api.OpPipe, Kids: []int{1, 2}}, {Op: api.OpGet, Name: "a"}, {Op: api.OpMap, Kids: []int{3}}, {Op: api.OpSum}}
	l, bad := code.Compile(e)
	if bad != api.OK || !sameRow(l, want) {
		t.Errorf("P18.2: Compile(%s) = %s, %d", short(e), short(l), bad)
	}
	if back, bad := code.Back(l); bad != api.OK || !sameExpr(back, e) {
		t.Errorf("P18.3: Back = %s, %d", short(back), bad)
	}
	for _, l := range [][]api.Node{nil, {}, {{Op: api.OpMap, Kids: []int{0}}}, {{Op: api.OpId}, {Op: api.OpId}}} {
		if bad := code.Check(l); bad != api.ErrCodeForm {
			t.Errorf("P18.1: Check(%s) = %d", short(l), bad)
		}
	}
	for s, want := range map[string]bool{"{a = id}": true, "[{a = id, b = id}]": false} {
		l, _ := code.Compile(mappingOf(t, s))
		if is, bad := code.Streams(l); is != want || bad != api.OK {
			t.Errorf("P18.4: Streams of %s = %v, %d", s, is, bad)
		}
	}
}

// P18.2, P18.3: programs of all Ops, as they stand here.
func TestPrograms(t *testing.T) {
	for _, x := range []struct {
		text string
		want []api.Node
	}{
		{"id", []api.Node{{Op: 1}}},
		{".a", []api.Node{{Op: 2, Name: "a"}}},
		{`.""`, []api.Node{{Op: 2}}},
		{"{}", []api.Node{{Op: 3}}},
		{"{b = .a}", []api.Node{{Op: 3, Names: []string{"b"}, Kids: []int{1}}, {Op: 2, Name: "a"}}},
		{"{b = .a, a = sum}", []api.Node{{Op: 3, Names: []string{"b", "a"}, Kids: []int{1, 2}}, {Op: 2, Name: "a"}, {Op: 10}}},
		{"[id]", []api.Node{{Op: 4, Kids: []int{1}}, {Op: 1}}},
		{"[[count]]", []api.Node{{Op: 4, Kids: []int{1}}, {Op: 4, Kids: []int{2}}, {Op: 11}}},
		{"tag a", []api.Node{{Op: 5, Name: "a"}}},
		{"case {}", []api.Node{{Op: 6}}},
		{"case {a = tag b, b = totext}", []api.Node{{Op: 6, Names: []string{"a", "b"}, Kids: []int{1, 2}}, {Op: 5, Name: "b"}, {Op: 8}}},
		{"const null", []api.Node{{Op: 7, Value: null}}},
		{"const true", []api.Node{{Op: 7, Value: flag(true)}}},
		{"const false", []api.Node{{Op: 7, Value: flag(false)}}},
		{"const 150", []api.Node{{Op: 7, Value: number("15", 1)}}},
		{`const "\u0000"`, []api.Node{{Op: 7, Value: text("\x00")}}},
		{"tonum ; tonum", []api.Node{{Op: 12, Kids: []int{1, 2}}, {Op: 9}, {Op: 9}}},
		{"(id ; sum) ; count", []api.Node{{Op: 12, Kids: []int{1, 4}}, {Op: 12, Kids: []int{2, 3}}, {Op: 1}, {Op: 10}, {Op: 11}}},
		{"id ; (sum ; count)", []api.Node{{Op: 12, Kids: []int{1, 2}}, {Op: 1}, {Op: 12, Kids: []int{3, 4}}, {Op: 10}, {Op: 11}}},
		{"{a = [.x ; id], b = case {p = {}, q = {c = tag d}}, e = id} ; .a", []api.Node{
			{Op: 12, Kids: []int{1, 11}}, {Op: 3, Names: []string{"a", "b", "e"}, Kids: []int{2, 6, 10}}, {Op: 4, Kids: []int{3}}, {Op: 12, Kids: []int{4, 5}}, {Op: 2, Name: "x"}, {Op: 1},
			{Op: 6, Names: []string{"p", "q"}, Kids: []int{7, 8}}, {Op: 3}, {Op: 3, Names: []string{"c"}, Kids: []int{9}}, {Op: 5, Name: "d"}, {Op: 1}, {Op: 2, Name: "a"},
		}},
	} {
		e := mappingOf(t, x.text)
		l, _ := compiled(t, e)
		if !sameRow(l, x.want) {
			t.Errorf("P18.2: Compile(%s) = %s, want %s", x.text, short(l), short(x.want))
		}
		if back, bad := code.Back(x.want); bad != api.OK || !sameExpr(back, e) {
			t.Errorf("P18.3: Back(%s) = %s, %d, want %s", short(x.want), short(back), bad, x.text)
		}
		if bad := ask(t, x.want); bad != api.OK {
			t.Errorf("P18.1: Check(%s) = %d", short(x.want), bad)
		}
	}
}

// P18.4: what streams: an OpRecord of one, and OpCases and OpPipes of many, do.
func TestStreams(t *testing.T) {
	for s, want := range map[string]bool{
		"id": true, ".a": true, "{}": true, "{a = id}": true, "{a = {b = {c = sum}}}": true, "[[count]]": true, "id ; sum ; id": true, "case {}": true, "case {a = id, b = id, c = id}": true, "tag a ; case {a = {x = .y}, b = {}}": true, "const 1": true, "[{a = [{b = totext ; tonum}]}] ; .a ; {c = id}": true,
		"{a = id, b = id}": false, "{a = id, b = id, c = id}": false, "[{a = id, b = id}]": false, "{a = {b = id, c = id}}": false, "case {a = id, b = {x = .x, y = .y}}": false, "id ; ({a = id, b = id} ; .a) ; id": false, "{a = const 1, b = const 2}": false, "[[{a = {}, b = {}}]] ; const null": false, "id ; id ; {a = {b = {c = id}}, d = {}}": false, "case {a = {x = id}} ; {x = id, y = id} ; {z = id}": false,
	} {
		l, bad := compiled(t, mappingOf(t, s))
		is, worse := code.Streams(l)
		if bad != api.OK || worse != api.OK || is != want {
			t.Errorf("P18.4: Streams of %s = %v, %d, want %v", s, is, worse, want)
		}
	}
}
