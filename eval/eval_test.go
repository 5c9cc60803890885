package eval_test

import (
	"fmt"
	"math"
	"reflect"
	"slices"
	"strings"
	"testing"

	"calamus/api"
	"calamus/eval"
	"calamus/json"
	"calamus/lang"
	"calamus/value"
)

func step(op api.Op) api.Expr       { return api.Expr{Op: op} }
func get(name string) api.Expr      { return api.Expr{Op: api.OpGet, Name: name} }
func tag(name string) api.Expr      { return api.Expr{Op: api.OpTag, Name: name} }
func mapOf(e api.Expr) api.Expr     { return api.Expr{Op: api.OpMap, List: []api.Expr{e}} }
func pipe(l ...api.Expr) api.Expr   { return api.Expr{Op: api.OpPipe, List: l} }
func constant(v api.Value) api.Expr { return api.Expr{Op: api.OpConst, Value: v} }

// record, cases and recordOf take their names with a blank between.
func record(names string, l ...api.Expr) api.Expr {
	return api.Expr{Op: api.OpRecord, Names: strings.Fields(names), List: l}
}

func cases(names string, l ...api.Expr) api.Expr {
	return api.Expr{Op: api.OpCase, Names: strings.Fields(names), List: l}
}

func recordOf(names string, l ...api.Value) api.Value {
	return api.Value{Kind: api.KindRecord, Names: strings.Fields(names), List: l}
}

func flag(b bool) api.Value { return api.Value{Kind: api.KindBool, Flag: b} }

func number(digits string, exp int) api.Value {
	return api.Value{Kind: api.KindNum, Num: api.Num{Digits: digits, Exp: exp}}
}

func below(digits string, exp int) api.Value {
	return api.Value{Kind: api.KindNum, Num: api.Num{Neg: true, Digits: digits, Exp: exp}}
}

func float(bits uint64) api.Value { return api.Value{Kind: api.KindFloat, Bits: bits} }

func text(s string) api.Value { return api.Value{Kind: api.KindText, Text: s} }

func raw(s string) api.Value { return api.Value{Kind: api.KindBytes, Text: s} }

func list(l ...api.Value) api.Value { return api.Value{Kind: api.KindList, List: l} }

func tagged(name string, v api.Value) api.Value {
	return api.Value{Kind: api.KindTag, Text: name, List: []api.Value{v}}
}

var (
	null = api.Value{Kind: api.KindNull}

	id, toText, toNum, sum, count = step(api.OpId), step(api.OpToText), step(api.OpToNum), step(api.OpSum), step(api.OpCount)

	nines = strings.Repeat("9", 40)
)

// mappingOf and valueOf are what stands in a text.
func mappingOf(t *testing.T, s string) api.Expr {
	t.Helper()
	x, e, at := lang.Parse(s)
	if e != api.OK {
		t.Fatalf("Parse(%s) = %d at %d", s, e, at)
	}
	return x
}

func valueOf(t *testing.T, s string) api.Value {
	t.Helper()
	v, e := json.Read([]byte(s))
	if e != api.OK {
		t.Fatalf("Read(%s) = %d", s, e)
	}
	return v
}

// short is how x is told, or the two ends of that, so that a fault can be read.
func short(x any) string {
	s := fmt.Sprint(x)
	switch y := x.(type) {
	case api.Value:
		if b, e := json.Write(y); e == api.OK {
			s = string(b)
		}
	case api.Expr:
		if p, e := lang.Print(y); e == api.OK {
			s = p
		}
	}
	if len(s) > 300 {
		return fmt.Sprintf("%s .. %s (%d bytes)", s[:200], s[len(s)-60:], len(s))
	}
	return s
}

// wantMade asks Run for what e makes of v.
func wantMade(t *testing.T, e api.Expr, v, want api.Value) {
	t.Helper()
	if got, bad := eval.Run(e, v); !value.Equal(got, want) || bad != api.OK {
		t.Errorf("P16.1: Run(%s, %s) = %s, %d, want %s", short(e), short(v), short(got), bad, short(want))
	}
}

// wantRefused asks Run for an error.
func wantRefused(t *testing.T, e api.Expr, v api.Value, want api.Errno) {
	t.Helper()
	if got, bad := eval.Run(e, v); !reflect.DeepEqual(got, api.Value{}) || bad != want {
		t.Errorf("P16.1: Run(%s, %s) = %s, %d, want %d", short(e), short(v), short(got), bad, want)
	}
}

// row is what Run is to make: a mapping's text, and two documents of JSON, or, of what it refuses, one of the words of refusals.
type row struct{ mapping, in, want string }

var refusals = map[string]api.Errno{"!type": api.ErrEvalType, "!coerce": api.ErrEvalCoerce, "!limit": api.ErrLimit}

func wantRows(t *testing.T, rows []row) {
	t.Helper()
	for _, x := range rows {
		e, v := mappingOf(t, x.mapping), valueOf(t, x.in)
		if bad, refused := refusals[x.want]; refused {
			wantRefused(t, e, v, bad)
		} else {
			wantMade(t, e, v, valueOf(t, x.want))
		}
	}
}

// The examples of the chapter's table.
func TestExamples(t *testing.T) {
	wantRows(t, []row{
		{".a", `{"a":1}`, `1`},
		{".b", `{"a":1}`, "!type"},
		{"[tonum] ; sum", `["1","0.5"]`, `1.5`},
		{"[tonum] ; sum", `["x"]`, "!coerce"},
		{"{n = count, l = id}", `[null]`, `{"n":1,"l":[null]}`},
		{"case {a = tag x, b = const 0}", `{"$tag":["a",null]}`, `{"$tag":["x",null]}`},
		{"case {a = tag x, b = const 0}", `{"$tag":["c",null]}`, "!type"},
		{"totext", `1.50`, `"1.5"`},
		{"totext", `null`, "!type"},
	})
}

// noExprs are structs that are no mappings, overExprs mappings that pass a limit.
func noExprs() []api.Expr {
	return []api.Expr{{}, step(-1), step(13), {Op: math.MaxInt}, {Op: math.MinInt}, {Op: api.OpMap}, {Op: api.OpMap, List: []api.Expr{id, id}}, {Op: api.OpPipe}, pipe(id), pipe(id, api.Expr{}), get("\xff"), tag("\xff"), record("a a", id, id), record("a"), cases("a"), cases("a a", id, id),
		{Op: api.OpId, Name: "a"}, {Op: api.OpSum, List: []api.Expr{id}}, {Op: api.OpConst}, constant(list()), constant(raw("a")), constant(float(1)), constant(text("\xff")), constant(number("10", 0)), {Op: api.OpTag, Value: null}, mapOf(step(99)), {Op: api.OpRecord, List: []api.Expr{id}}}
}

func overExprs() []api.Expr {
	return []api.Expr{get(strings.Repeat("a", 65)), tag(strings.Repeat("a", 65)), within(16, id), pipe(slices.Repeat([]api.Expr{id}, 512)...), constant(text(strings.Repeat("a", 4097))), {Op: api.OpRecord, Names: manyNames(0, 257), List: slices.Repeat([]api.Expr{id}, 257)}}
}

// noValues are structs that are no values, overValues values that pass a limit.
func noValues() []api.Value {
	return []api.Value{{}, {Kind: -1}, {Kind: 10}, {Kind: math.MaxInt}, {Kind: api.KindNum}, number("10", 0), number("1", 401), below("0", 0), {Kind: api.KindNull, Text: "a"}, text("\xff"), recordOf("a a", null, null), recordOf("a"), {Kind: api.KindRecord, List: []api.Value{null}}, tagged("\xff", null),
		{Kind: api.KindTag, Text: "a"}, {Kind: api.KindTag, Text: "a", List: []api.Value{null, null}}, {Kind: api.KindList, Names: []string{"a"}}, list(api.Value{}), tagged("a", list(null, api.Value{Kind: 10}))}
}

func overValues() []api.Value {
	return []api.Value{text(strings.Repeat("a", 4097)), raw(strings.Repeat("a", 4097)), tagged(strings.Repeat("a", 65), null), recordOf(strings.Repeat("a", 65), null), list(times(257, null)...), under(16, null), sizedOf(4097), {Kind: api.KindRecord, Names: manyNames(0, 257), List: times(257, null)}}
}

// P16.1: lang.Check's error of e comes first, then value.Check's of v, then what the table tells.
func TestChecked(t *testing.T) {
	// In each row all mappings are refused alike, and all values; the first that is not OK is told.
	for _, x := range []struct {
		exprs []api.Expr
		bad   api.Errno
	}{{[]api.Expr{get("a"), mapOf(id), cases(""), sum, count, toNum, toText}, api.OK}, {noExprs(), api.ErrLangForm}, {overExprs(), api.ErrLimit}} {
		for _, y := range []struct {
			values []api.Value
			bad    api.Errno
		}{{[]api.Value{null, float(1)}, api.ErrEvalType}, {noValues(), api.ErrValueForm}, {overValues(), api.ErrLimit}} {
			want := x.bad
			if want == api.OK {
				want = y.bad
			}
			for _, e := range x.exprs {
				for _, v := range y.values {
					wantRefused(t, e, v, want)
				}
			}
		}
	}
	for _, v := range noValues() {
		wantRefused(t, constant(null), v, api.ErrValueForm) // also where it is not asked
		wantRefused(t, record(""), v, api.ErrValueForm)
	}
	for _, v := range overValues() {
		wantRefused(t, constant(null), v, api.ErrLimit)
		wantRefused(t, id, v, api.ErrLimit)
	}
	wantRefused(t, pipe(get("a"), step(13)), null, api.ErrLangForm) // ahead of what a step does not take, wherever it stands
	wantRefused(t, pipe(get("a"), get(strings.Repeat("a", 65))), null, api.ErrLimit)
	wantRefused(t, cases("a b", id, api.Expr{}), tagged("a", null), api.ErrLangForm) // also where it is not gone through
	wantRefused(t, mapOf(tag(strings.Repeat("a", 65))), list(), api.ErrLimit)
}
