package code_test

import (
	"fmt"
	"math"
	"math/rand"
	"slices"
	"strconv"
	"strings"
	"testing"

	"calamus/api"
	"calamus/code"
	"calamus/lang"
)

// nodeFor is a node of a mapping that may have as many others within as there are kids.
func nodeFor(kids []int) api.Node {
	n := api.Node{Op: api.OpRecord, Kids: kids}
	for i := range kids {
		n.Names = append(n.Names, "n"+strconv.Itoa(i))
	}
	return n
}

// kidLists are all lists of up to most kids, of the numbers from to to.
func kidLists(most, from, to int) [][]int {
	all, last := [][]int{nil}, [][]int{nil}
	for range most {
		var longer [][]int
		for _, l := range last {
			for kid := from; kid <= to; kid++ {
				longer = append(longer, append(slices.Clone(l), kid))
			}
		}
		all, last = append(all, longer...), longer
	}
	return all
}

// allRows calls what is done with each row of n nodes whose Kids are some of lists.
func allRows(n int, lists [][]int, do func(l []api.Node)) {
	l := make([]api.Node, n)
	var lay func(at int)
	lay = func(at int) {
		if at == n {
			do(l)
			return
		}
		for _, kids := range lists {
			l[at] = nodeFor(kids)
			lay(at + 1)
		}
	}
	lay(0)
}

// P18.1: all rows of few nodes, with all Kids there may be: of n nodes there are as many programs as trees (1, 1, 2, 5).
func TestAllRows(t *testing.T) {
	for n, x := range []struct {
		lists [][]int
		trees int
	}{{kidLists(1, -1, 1), 0}, {kidLists(4, -1, 2), 1}, {kidLists(4, -1, 3), 1}, {kidLists(2, -1, 4), 2}, {kidLists(3, 1, 4)[:21], 4}} {
		trees := 0
		allRows(n, x.lists, func(l []api.Node) {
			if ask(t, l) == api.OK {
				trees++
			}
		})
		if trees != x.trees { // of four nodes the tree whose root has three kids is left out
			t.Errorf("P18.1: of rows of %d nodes %d are programs, want %d", n, trees, x.trees)
		}
	}
}

// P18.1: long rows of numbers that might be a program's.
func TestOrder(t *testing.T) {
	node := func(op api.Op, kids ...int) api.Node { return api.Node{Op: op, Kids: kids} }
	i := node(api.OpId)
	for s, l := range map[string][]api.Node{
		"a node too many":             {node(api.OpPipe, 1, 2), i, i, i},
		"one that is behind":          {node(api.OpPipe, 1, 2), i, node(api.OpMap, 1)},
		"itself":                      {node(api.OpPipe, 1, 2), i, node(api.OpMap, 2)},
		"the whole":                   {node(api.OpPipe, 1, 2), i, node(api.OpMap, 0)},
		"none":                        {node(api.OpPipe, 1, 2), i, node(api.OpMap, 3)},
		"below none":                  {node(api.OpPipe, -1, 2), i, i},
		"twice the same":              {node(api.OpPipe, 1, 1), i},
		"twice, and behind it":        {node(api.OpPipe, 1, 1, 2), i, i},
		"another's":                   {node(api.OpPipe, 1, 2), node(api.OpMap, 2), i},
		"another's, and its own":      {node(api.OpPipe, 1, 2, 3), node(api.OpMap, 2), i, i},
		"from the back":               {node(api.OpPipe, 2, 1), i, i},
		"breadth first":               {node(api.OpPipe, 1, 2), node(api.OpMap, 3), node(api.OpMap, 4), i, i},
		"kids ahead":                  {i, i, node(api.OpPipe, 0, 1)},
		"one left out":                {node(api.OpPipe, 1, 3), i, i, i},
		"the first left out":          {node(api.OpMap, 2), i, i},
		"a ring":                      {node(api.OpMap, 1), node(api.OpMap, 0)},
		"a ring beside":               {i, node(api.OpMap, 2), node(api.OpMap, 1)},
		"very far":                    {node(api.OpMap, math.MaxInt), i},
		"very far below":              {node(api.OpMap, math.MinInt), i},
		"two programs":                {node(api.OpMap, 1), i, node(api.OpMap, 3), i},
		"a kid of what has none":      {node(api.OpId, 1), i},
		"its own of what has none":    {node(api.OpCount, 0)},
		"fewer than its Op has":       {node(api.OpMap)},
		"more than its Op has":        {node(api.OpMap, 1, 2), i, i},
		"a row of one":                {node(api.OpPipe, 1), i},
		"numbers of another, shorter": {node(api.OpMap, 1), node(api.OpPipe, 1, 2), i, i},
	} {
		if bad := code.Check(l); bad != api.ErrCodeForm {
			t.Errorf("P18.1: %s: Check = %d", s, bad)
		}
		ask(t, l)
		for _, around := range [][]api.Node{{node(api.OpMap, 1)}, {node(api.OpPipe, 1, 2), i}} { // the same numbers, moved
			moved := slices.Clone(around)
			for _, n := range l {
				n.Kids = slices.Clone(n.Kids)
				for k := range n.Kids {
					n.Kids[k] += len(around)
				}
				moved = append(moved, n)
			}
			if bad := ask(t, moved); bad != api.ErrCodeForm {
				t.Errorf("P18.1: %s, moved: Check = %d", s, bad)
			}
		}
	}
}

// P18.1, P18.2: structs that are no mappings, and mappings beyond a limit, wherever they stand, beside one another.
func TestForms(t *testing.T) {
	want := func(e api.Expr, form, refused api.Errno) {
		t.Helper()
		if bad := ask(t, programOf(e)); bad != form {
			t.Errorf("P18.1: Check of what %s would be = %d, want %d", short(e), bad, form)
		}
		if l, bad := compiled(t, e); bad != refused || form != api.OK && len(l) > 0 {
			t.Errorf("P18.2: Compile(%s) = %d, want %d", short(e), bad, refused)
		}
	}
	for _, place := range places() {
		for _, e := range someExprs() {
			want(place(e), api.OK, api.OK)
		}
		for _, e := range noExprs() {
			want(place(e), api.ErrCodeForm, api.ErrLangForm)
		}
		for _, e := range overExprs() {
			want(place(e), api.ErrLimit, api.ErrLimit)
		}
	}
	for _, e := range noExprs() {
		for _, o := range overExprs() { // the form comes first
			want(pipe(e, o), api.ErrCodeForm, api.ErrLangForm)
			want(pipe(o, e), api.ErrCodeForm, api.ErrLangForm)
		}
	}
	for op := api.Op(-20); op < 300; op++ {
		if op < 1 || op > 12 {
			want(pipe(id, step(op)), api.ErrCodeForm, api.ErrLangForm)
		}
	}
}

// P18.1: of each Op, each field of a node that it may use or not, with each of some contents.
func TestFields(t *testing.T) {
	i := api.Node{Op: api.OpId}
	for op := api.Op(-1); op <= 13; op++ {
		for _, name := range []string{"", "a", "\xff", strings.Repeat("a", 65)} {
			for _, names := range [][]string{nil, {}, {"a"}, {""}, {"a", "b"}, {"a", "a"}, {"\xff"}, {strings.Repeat("a", 65)}} {
				for _, kids := range [][]int{nil, {}, {1}, {1, 2}, {1, 2, 3}, {2, 1}, {0}} {
					for _, v := range []api.Value{{}, {Names: []string{}, List: []api.Value{}}, null, text("a"), {Flag: true}, {Bits: 1}, {Text: "a"}, {Num: api.Num{Exp: 1}}, {Names: []string{""}}, {List: []api.Value{{}}}} {
						l := []api.Node{{Op: op, Name: name, Names: names, Kids: kids, Value: v}, i, i, i}
						ask(t, l[:1+len(kids)])
					}
				}
			}
		}
	}
}

// P18.1: each limit, just met and just passed.
func TestLimits(t *testing.T) {
	for i, x := range []struct{ just, over api.Expr }{
		{get(strings.Repeat("a", 64)), get(strings.Repeat("a", 65))},
		{tag(strings.Repeat("\u00e9", 32)), tag(strings.Repeat("\u00e9", 32) + "a")},
		{record("b "+strings.Repeat("a", 64), id, id), record("b "+strings.Repeat("a", 65), id, id)},
		{cases(strings.Repeat("a", 64)+" b", id, id), cases(strings.Repeat("a", 65)+" b", id, id)},
		{constant(text(strings.Repeat("a", 4096))), constant(text(strings.Repeat("a", 4097)))},
		{wide(api.OpRecord, 256), wide(api.OpRecord, 257)},
		{wide(api.OpCase, 256), wide(api.OpCase, 257)},
		{within(15, id), within(16, id)},
		{within(14, pipe(id, id)), within(15, pipe(id, id))},
		{within(15, record("")), within(16, record(""))},
		{pipe(id, within(14, sum)), pipe(id, within(15, sum))},
		{pipe(slices.Repeat([]api.Expr{id}, 511)...), pipe(slices.Repeat([]api.Expr{id}, 512)...)},
		{mapOf(pipe(slices.Repeat([]api.Expr{id}, 510)...)), mapOf(pipe(slices.Repeat([]api.Expr{id}, 511)...))},
		{pipe(wide(api.OpRecord, 254), wide(api.OpCase, 255)), pipe(wide(api.OpRecord, 255), wide(api.OpCase, 255))},
		{pipe(slices.Repeat([]api.Expr{within(6, id)}, 73)...), pipe(append(slices.Repeat([]api.Expr{within(6, id)}, 73), id)...)},
	} {
		if bad := ask(t, programOf(x.just)); bad != api.OK {
			t.Errorf("P18.1: limit %d, just met: Check = %d", i, bad)
		}
		if bad := ask(t, programOf(x.over)); bad != api.ErrLimit {
			t.Errorf("P18.1: limit %d, just passed: Check = %d", i, bad)
		}
		if _, bad := compiled(t, x.just); bad != api.OK {
			t.Errorf("P18.2: limit %d, just met: Compile = %d", i, bad)
		}
		if _, bad := compiled(t, x.over); bad != api.ErrLimit {
			t.Errorf("P18.2: limit %d, just passed: Compile = %d", i, bad)
		}
	}
}

// longRows are programs of n nodes or so: one within the other, all within one, a comb of both, and the same from the back.
func longRows(n int) map[string][]api.Node {
	deep := make([]api.Node, n)
	for i := range deep {
		deep[i] = api.Node{Op: api.OpMap, Kids: []int{i + 1}}
	}
	deep[n-1] = api.Node{Op: api.OpId}
	flat := slices.Repeat([]api.Node{{Op: api.OpSum}}, n)
	flat[0] = api.Node{Op: api.OpPipe}
	for i := 1; i < n; i++ {
		flat[0].Kids = append(flat[0].Kids, i)
	}
	named := slices.Clone(flat)
	named[0].Op = api.OpCase
	for i := 1; i < n; i++ {
		named[0].Names = append(named[0].Names, "n"+strconv.Itoa(i))
	}
	n |= 1
	ahead, behind := make([]api.Node, n), make([]api.Node, n)
	for i := range n / 2 { // each OpPipe's one kid is a leaf, the other one all the rest
		ahead[2*i], ahead[2*i+1] = api.Node{Op: api.OpPipe, Kids: []int{2*i + 1, 2*i + 2}}, api.Node{Op: api.OpCount}
		behind[i], behind[n-1-i] = api.Node{Op: api.OpPipe, Kids: []int{i + 1, n - 1 - i}}, api.Node{Op: api.OpCount}
	}
	ahead[n-1], behind[n/2] = api.Node{Op: api.OpId}, api.Node{Op: api.OpId}
	return map[string][]api.Node{"deep": deep, "flat": flat, "named": named, "ahead": ahead, "behind": behind}
}

// wantRefused asks for an error of all calls.
func wantRefused(t *testing.T, what string, l []api.Node, want api.Errno) {
	t.Helper()
	bad := code.Check(l)
	e, back := code.Back(l)
	is, streams := code.Streams(l)
	if bad != want || back != want || streams != want || is || !sameExpr(e, api.Expr{}) {
		t.Errorf("P18.1: %s: Check = %d, Back = %s, %d, Streams = %v, %d, want %d", what, bad, short(e), back, is, streams, want)
	}
}

// P18.1, R1: rows of any length are gone through, however deep what they tell is; the form is asked of all of it.
func TestLong(t *testing.T) {
	for _, n := range []int{512, 513, 514, 2000} {
		for name, l := range longRows(n) {
			what := fmt.Sprint(name, " ", n)
			if n < 1000 {
				if bad := ask(t, l); (bad == api.OK) != (name == "flat" && n <= 512) {
					t.Errorf("P18.1: %s: Check = %d", what, bad)
				}
			}
			if n > 512 {
				wantRefused(t, what, l, api.ErrLimit)
			}
			for _, at := range []int{0, 1, len(l) / 2, len(l) - 1} {
				for i, change := range []func(n *api.Node){
					func(n *api.Node) { n.Name = "a" },
					func(n *api.Node) { n.Op = 99 },
					func(n *api.Node) { n.Kids = append(slices.Clone(n.Kids), len(l)) },
					func(n *api.Node) { n.Kids = []int{at} },
				} {
					no := slices.Clone(l)
					change(&no[at])
					wantRefused(t, fmt.Sprint(what, ", change ", i, " at ", at), no, api.ErrCodeForm)
				}
			}
			wantRefused(t, what+", cut off", l[:len(l)-1], api.ErrCodeForm)
			wantRefused(t, what+", with one more", append(slices.Clone(l), api.Node{Op: api.OpId}), api.ErrCodeForm)
			wantRefused(t, what+", from node 1 on", l[1:], api.ErrCodeForm)
		}
	}
	for name, l := range longRows(200000) {
		wantRefused(t, name, l, api.ErrLimit)
		l[len(l)-1].Name = "a"
		wantRefused(t, name+", with a Name at the end", l, api.ErrCodeForm)
	}
}

// R1: nodes that have one another within, over and over, are no program, and that is found at once.
func TestEntangled(t *testing.T) {
	for _, n := range []int{2, 30, 1000} {
		var up, all, ring []api.Node
		every := make([]int, n)
		for i := range n {
			every[i] = i
		}
		for i := range n {
			up = append(up, api.Node{Op: api.OpPipe, Kids: []int{i + 1, i + 1}})
			all = append(all, api.Node{Op: api.OpPipe, Kids: every})
			ring = append(ring, api.Node{Op: api.OpMap, Kids: []int{(i + 1) % n}})
		}
		up = append(up, api.Node{Op: api.OpId})
		wantRefused(t, "doubled", up, api.ErrCodeForm)
		wantRefused(t, "each in each", all, api.ErrCodeForm)
		wantRefused(t, "a ring", ring, api.ErrCodeForm)
	}
}

// P18.1 to P18.5: rows of all sorts, and such ones changed in one place or two.
func TestChanged(t *testing.T) {
	r := rand.New(rand.NewSource(181))
	told := map[api.Errno]int{}
	for range 60000 {
		e := someExpr(r, 1+r.Intn(5))
		if lang.Check(e) != api.OK {
			compiled(t, e)
			continue
		}
		l, _ := compiled(t, e)
		for range 3 {
			l = changed(r, l)
			told[ask(t, l)]++
			if len(l) == 0 {
				break
			}
		}
	}
	if told[api.OK] < 2000 || told[api.ErrCodeForm] < 50000 || told[api.ErrLimit] < 300 {
		t.Errorf("only %v answers", told)
	}
}
