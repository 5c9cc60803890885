package norm_test

import (
	"fmt"
	"math"
	"reflect"
	"slices"
	"strconv"
	"strings"
	"testing"

	"calamus/api"
	"calamus/eval"
	"calamus/json"
	"calamus/lang"
	"calamus/norm"
	"calamus/value"
)

func step(op api.Op) api.Expr       { return api.Expr{Op: op} }
func get(name string) api.Expr      { return api.Expr{Op: api.OpGet, Name: name} }
func tag(name string) api.Expr      { return api.Expr{Op: api.OpTag, Name: name} }
func mapOf(e api.Expr) api.Expr     { return api.Expr{Op: api.OpMap, List: []api.Expr{e}} }
func pipe(l ...api.Expr) api.Expr   { return api.Expr{Op: api.OpPipe, List: l} }
func constant(v api.Value) api.Expr { return api.Expr{Op: api.OpConst, Value: v} }

// record, cases and recordOf take their names with a blank between.
func record(names string, l ...api.Expr) api.Expr {
	return api.Expr{Op: api.OpRecord, Names: strings.Fields(names), List: l}
}

func cases(names string, l ...api.Expr) api.Expr {
	return api.Expr{Op: api.OpCase, Names: strings.Fields(names), List: l}
}

func recordOf(names string, l ...api.Value) api.Value {
	return api.Value{Kind: api.KindRecord, Names: strings.Fields(names), List: l}
}

func flag(b bool) api.Value { return api.Value{Kind: api.KindBool, Flag: b} }

func number(digits string, exp int) api.Value {
	return api.Value{Kind: api.KindNum, Num: api.Num{Digits: digits, Exp: exp}}
}

func below(digits string, exp int) api.Value {
	return api.Value{Kind: api.KindNum, Num: api.Num{Neg: true, Digits: digits, Exp: exp}}
}

func float(bits uint64) api.Value { return api.Value{Kind: api.KindFloat, Bits: bits} }

func text(s string) api.Value { return api.Value{Kind: api.KindText, Text: s} }

func raw(s string) api.Value { return api.Value{Kind: api.KindBytes, Text: s} }

func list(l ...api.Value) api.Value { return api.Value{Kind: api.KindList, List: l} }

func tagged(name string, v api.Value) api.Value {
	return api.Value{Kind: api.KindTag, Text: name, List: []api.Value{v}}
}

var (
	null = api.Value{Kind: api.KindNull}

	id, toText, toNum, sum, count = step(api.OpId), step(api.OpToText), step(api.OpToNum), step(api.OpSum), step(api.OpCount)

	nines = strings.Repeat("9", 40)
)

// mappingOf and valueOf are what stands in a text.
func mappingOf(t *testing.T, s string) api.Expr {
	t.Helper()
	x, e, at := lang.Parse(s)
	if e != api.OK {
		t.Fatalf("Parse(%s) = %d at %d", s, e, at)
	}
	return x
}

func valueOf(t *testing.T, s string) api.Value {
	t.Helper()
	v, e := json.Read([]byte(s))
	if e != api.OK {
		t.Fatalf("Read(%s) = %d", s, e)
	}
	return v
}

// short is how x is told, or the two ends of that, so that a fault can be read.
func short(x any) string {
	s := fmt.Sprint(x)
	switch y := x.(type) {
	case api.Value:
		if b, e := json.Write(y); e == api.OK {
			s = string(b)
		}
	case api.Expr:
		if p, e := lang.Print(y); e == api.OK {
			s = p
		}
	}
	if len(s) > 300 {
		return fmt.Sprintf("%s .. %s (%d bytes)", s[:200], s[len(s)-60:], len(s))
	}
	return s
}

// isLaidOut tells whether no OpPipe and no OpId stands in the List of an OpPipe.
func isLaidOut(e api.Expr) bool {
	for _, x := range e.List {
		if e.Op == api.OpPipe && (x.Op == api.OpPipe || x.Op == api.OpId) || !isLaidOut(x) {
			return false
		}
	}
	return true
}

// sizeOf counts the mappings in e one by one.
func sizeOf(e api.Expr) int {
	n, all := 0, []api.Expr{e}
	for ; n < len(all); n++ {
		all = append(all, all[n].List...)
	}
	return n
}

// normed is Norm's answer; it asks for all that P17.1 and P17.2 say of it, whatever the values are.
func normed(t *testing.T, e api.Expr) api.Expr {
	t.Helper()
	x, bad := norm.Norm(e)
	if want := lang.Check(e); bad != want {
		t.Errorf("P17.1: Norm(%s) = %d, want %d", short(e), bad, want)
	}
	if bad != api.OK {
		if !reflect.DeepEqual(x, api.Expr{}) {
			t.Errorf("R1: Norm(%s) = %s beside an error", short(e), short(x))
		}
		return x
	}
	if bad := lang.Check(x); bad != api.OK {
		t.Errorf("P17.1: Norm(%s) = %s: Check = %d", short(e), short(x), bad)
	}
	if !isLaidOut(x) {
		t.Errorf("P17.2: Norm(%s) = %s", short(e), short(x))
	}
	was, is := norm.Size(e), norm.Size(x)
	if is > was || was != sizeOf(e) || is != sizeOf(x) {
		t.Errorf("P17.2: Norm(%s) = %s: Size is %d, of %d, want %d, of %d", short(e), short(x), is, was, sizeOf(x), sizeOf(e))
	}
	if again, bad := norm.Norm(x); bad != api.OK || !reflect.DeepEqual(again, x) {
		t.Errorf("P17.2: Norm(%s) = %s, but once more %s, %d", short(e), short(x), short(again), bad)
	}
	return x
}

// makesSame asks that x, which is Norm's answer of e, makes the same of v, and refuses it, if e does for another cause than a limit. It tells what e answers.
func makesSame(t *testing.T, e, x api.Expr, v api.Value) api.Errno {
	t.Helper()
	want, bad := eval.Run(e, v)
	if bad == api.ErrLimit {
		return bad
	}
	if got, worse := eval.Run(x, v); (bad == api.OK) != (worse == api.OK) || !value.Equal(got, want) {
		t.Errorf("P17.1: %s of %s: %s, %d; made shorter, %s: %s, %d", short(e), short(v), short(want), bad, short(x), short(got), worse)
	}
	return bad
}

// isAlike tells whether two mappings are built alike; a list without elements may be nil or not.
func isAlike(a, b api.Expr) bool {
	return a.Op == b.Op && a.Name == b.Name && slices.Equal(a.Names, b.Names) && value.Equal(a.Value, b.Value) && slices.EqualFunc(a.List, b.List, isAlike)
}

// wantNorm asks Norm for a mapping.
func wantNorm(t *testing.T, e, want api.Expr) {
	t.Helper()
	if got := normed(t, e); !isAlike(got, want) {
		t.Errorf("Norm(%s) = %s, want %s", short(e), short(got), short(want))
	}
}

// row is a mapping's text, and that of the shortest one that is known of it.
type row struct{ long, short string }

func wantRows(t *testing.T, rows []row) {
	t.Helper()
	values := smallValues()
	for _, x := range rows {
		e := mappingOf(t, x.long)
		wantNorm(t, e, mappingOf(t, x.short))
		for _, v := range values {
			makesSame(t, e, normed(t, e), v)
		}
	}
}

// The examples of the chapter's table.
func TestExamples(t *testing.T) {
	wantRows(t, []row{{"id ; (id ; .a) ; id", ".a"}, {"id", "id"}, {"id ; id", "id"}})
	if n := norm.Size(mappingOf(t, "{a = id, b = .x ; sum}")); n != 5 {
		t.Errorf("P17.2: Size = %d, want 5", n)
	}
	if x, bad := norm.Norm(api.Expr{}); bad != api.ErrLangForm || !reflect.DeepEqual(x, api.Expr{}) {
		t.Errorf("P17.1: Norm of a zero struct = %s, %d", short(x), bad)
	}
}

// P17.2: what Norm makes of an OpId, an OpPipe of OpIds alone, and an OpGet.
func TestIdAndGet(t *testing.T) {
	wantNorm(t, id, id)
	for n := 2; n < 20; n++ {
		wantNorm(t, pipe(slices.Repeat([]api.Expr{id}, n)...), id)
	}
	wantNorm(t, pipe(slices.Repeat([]api.Expr{id}, 511)...), id)
	for e, n := pipe(id, id), 0; n < 14; n++ {
		wantNorm(t, e, id)
		e = []api.Expr{pipe(e, id), pipe(id, e), pipe(id, e, id)}[n%3]
	}
	for _, name := range []string{"", "a", "id", "a b", "\u00e9", strings.Repeat("a", 64)} {
		wantNorm(t, get(name), get(name))
		wantNorm(t, pipe(id, get(name)), get(name))
	}
}

// P17.2: Size of any struct.
func TestSize(t *testing.T) {
	for i, x := range []struct {
		e    api.Expr
		want int
	}{
		{api.Expr{}, 1}, {id, 1}, {step(99), 1}, {api.Expr{Op: math.MinInt, List: []api.Expr{}}, 1}, {mapOf(id), 2}, {mapOf(mapOf(api.Expr{})), 3}, {pipe(), 1}, {pipe(id), 2}, {pipe(id, id, id), 4},
		{record("a b", id, get("x")), 3}, {record("", id, id), 3}, {cases("a b c"), 1}, {cases("a", pipe(id, mapOf(sum))), 5}, {api.Expr{Op: api.OpSum, List: []api.Expr{id, {List: []api.Expr{id, id}}}}, 5},
		{constant(list(null, null)), 1}, {api.Expr{Name: "a", Names: []string{"a", "b"}, Value: recordOf("a", null), List: []api.Expr{{}, {}}}, 3},
		{within(1000, pipe(id, id)), 1003}, {pipe(slices.Repeat([]api.Expr{mapOf(id)}, 5000)...), 10001}, {within(1<<16-1, id), 1 << 16},
	} {
		if n := norm.Size(x.e); n != x.want || n != sizeOf(x.e) {
			t.Errorf("P17.2: Size of struct %d = %d, want %d", i, n, x.want)
		}
	}
}

// noExprs are structs that are no mappings, overExprs mappings that pass a limit.
func noExprs() []api.Expr {
	return []api.Expr{{}, step(-1), step(13), {Op: math.MaxInt}, {Op: math.MinInt}, {Op: api.OpMap}, {Op: api.OpMap, List: []api.Expr{id, id}}, {Op: api.OpPipe}, pipe(id), pipe(id, api.Expr{}), get("\xff"), tag("\xff"), record("a a", id, id), record("a"), cases("a"), cases("a a", id, id),
		{Op: api.OpId, Name: "a"}, {Op: api.OpSum, List: []api.Expr{id}}, {Op: api.OpConst}, constant(list()), constant(raw("a")), constant(float(1)), constant(text("\xff")), constant(number("10", 0)), {Op: api.OpTag, Value: null}, mapOf(step(99)), {Op: api.OpRecord, List: []api.Expr{id}}}
}

func overExprs() []api.Expr {
	return []api.Expr{get(strings.Repeat("a", 65)), tag(strings.Repeat("a", 65)), within(16, id), pipe(slices.Repeat([]api.Expr{id}, 512)...), constant(text(strings.Repeat("a", 4097))), wide(api.OpRecord, 257), wide(api.OpCase, 257)}
}

// within lays n mappings over elements around e.
func within(n int, e api.Expr) api.Expr {
	for range n {
		e = mapOf(e)
	}
	return e
}

// wide is an OpRecord or OpCase of n names.
func wide(op api.Op, n int) api.Expr {
	e := api.Expr{Op: op, List: slices.Repeat([]api.Expr{id}, n)}
	for i := range n {
		e.Names = append(e.Names, "n"+strconv.Itoa(i))
	}
	return e
}

func wantRefused(t *testing.T, e api.Expr, want api.Errno) {
	t.Helper()
	if x, bad := norm.Norm(e); bad != want || !reflect.DeepEqual(x, api.Expr{}) {
		t.Errorf("P17.1: Norm(%s) = %s, %d, want %d", short(e), short(x), bad, want)
	}
}

// P17.1: lang.Check's error, also where the mapping would be one, or within the limits, if it were made shorter.
func TestChecked(t *testing.T) {
	over := overExprs()
	for _, e := range noExprs() {
		for _, x := range []api.Expr{e, pipe(id, e), mapOf(e), record("a b", e, id), pipe(e, constant(null)), pipe(record("a b", id, e), get("a")), pipe(tag("a"), cases("a b", id, e)), pipe(pipe(id, e), id)} {
			wantRefused(t, x, api.ErrLangForm)
		}
		for _, o := range over {
			wantRefused(t, pipe(e, o), api.ErrLangForm)
			wantRefused(t, pipe(o, e), api.ErrLangForm)
		}
	}
	for _, e := range over {
		for _, x := range []api.Expr{e, pipe(id, e), mapOf(e), record("a b", e, id), pipe(e, constant(null)), pipe(record("a b", id, e), get("a")), pipe(tag("a"), cases("a b", id, e)), pipe(pipe(id, e), id)} {
			wantRefused(t, x, api.ErrLimit)
		}
	}
	wantRefused(t, pipe(id, within(15, id)), api.ErrLimit)
	wantRefused(t, pipe(pipe(slices.Repeat([]api.Expr{id}, 509)...), id, id), api.ErrLimit)
	wantRefused(t, pipe(tag(strings.Repeat("a", 65)), constant(null)), api.ErrLimit)
	wantRefused(t, within(1<<16-1, id), api.ErrLimit)
	wantRefused(t, within(1<<16-1, api.Expr{}), api.ErrLangForm)
	wantRefused(t, within(1<<16-2, pipe(id, id)), api.ErrLimit)
}
