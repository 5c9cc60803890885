package norm_test

import (
	"math/rand"
	"testing"

	"calamus/api"
	"calamus/eval"
	"calamus/json"
	"calamus/lang"
	"calamus/norm"
	"calamus/value"
)

// tally counts what mappings answer, and how many of them were made shorter.
type tally struct {
	told    map[api.Errno]int
	shorter int
}

func newTally() *tally { return &tally{told: map[api.Errno]int{}} }

// ask asks for all that P17.1 and P17.2 say of e, at some values.
func (c *tally) ask(t *testing.T, e api.Expr, values ...api.Value) {
	t.Helper()
	x := normed(t, e)
	if lang.Check(e) != api.OK {
		c.told[lang.Check(e)]++
		return
	}
	if sizeOf(x) < sizeOf(e) {
		c.shorter++
	}
	for _, v := range values {
		c.told[makesSame(t, e, x, v)]++
	}
}

// sample is n of what stands in l.
func sample[T any](r *rand.Rand, l []T, n int) []T {
	some := make([]T, n)
	for i := range some {
		some[i] = l[r.Intn(len(l))]
	}
	return some
}

// P17.1, P17.2 of all small mappings, and of each two of them one behind the other in part.
func TestSmall(t *testing.T) {
	r := rand.New(rand.NewSource(171))
	c, values, small, l := newTally(), smallValues(), smallExprs(), leaves()
	for _, e := range small {
		c.ask(t, e, values...)
		for _, f := range l {
			c.ask(t, pipe(e, f), sample(r, values, 8)...)
			c.ask(t, pipe(f, e), sample(r, values, 8)...)
		}
	}
	for range 8000 {
		c.ask(t, pipe(sample(r, small, 2+r.Intn(3))...), sample(r, values, 12)...)
	}
	if c.told[api.OK] < 60000 || c.told[api.ErrEvalType] < 60000 || c.told[api.ErrEvalCoerce] < 800 || c.shorter < 12000 {
		t.Errorf("only %v answers, %d mappings made shorter", c.told, c.shorter)
	}
}

// P17.1, P17.2 of rows of three or four small mappings that rules have to do with: each rule meets what each other one leaves.
func TestSmallRows(t *testing.T) {
	r := rand.New(rand.NewSource(172))
	c, values := newTally(), smallValues()
	parts := []api.Expr{id, toText, toNum, count, sum, get("a"), tag("a"), constant(null), mapOf(id), mapOf(toNum), mapOf(tag("a")), mapOf(get("a")), cases("a b", id, toNum), record("a b", id, tag("b")), record("b a", toText, count), pipe(id, id)}
	for _, a := range parts {
		for _, b := range parts {
			for _, d := range parts {
				c.ask(t, pipe(a, b, d), sample(r, values, 12)...)
				c.ask(t, mapOf(pipe(a, b, d)), list(sample(r, values, 2)...))
				c.ask(t, pipe(a, b, d, parts[r.Intn(len(parts))]), sample(r, values, 6)...)
				c.ask(t, pipe(a, record("a b", pipe(b, d), parts[r.Intn(len(parts))]), get("a")), sample(r, values, 6)...)
			}
		}
	}
	if c.told[api.OK] < 4000 || c.told[api.ErrEvalType] < 40000 || c.shorter < 8000 {
		t.Errorf("only %v answers, %d mappings made shorter", c.told, c.shorter)
	}
}

// P17.1, P17.2 of mappings and values of all sorts.
func TestOfMany(t *testing.T) {
	r := rand.New(rand.NewSource(173))
	c, other := newTally(), newTally()
	for range 7000 {
		v := someValue(r, 1+r.Intn(5))
		e := taking(r, v, 1+r.Intn(5))
		for range r.Intn(3) {
			e = roundabout(r, e)
		}
		c.ask(t, e, v)
		other.ask(t, e, someValue(r, 4), someValue(r, 4))
	}
	if c.told[api.OK] < 3000 || c.told[api.ErrEvalType] < 1000 || c.told[api.ErrEvalCoerce] < 40 || c.told[api.ErrLimit] < 300 || c.shorter < 3000 || other.told[api.OK] < 4000 {
		t.Errorf("only %v answers, %d mappings made shorter, %v at other values", c.told, c.shorter, other.told)
	}
}

// P17.1 where limits are near: what passes none is made the same, and what is refused for another cause is refused, though a limit stands ahead of it, or behind.
func TestNearLimits(t *testing.T) {
	r := rand.New(rand.NewSource(174))
	c := newTally()
	for range 2000 {
		v := someValue(r, 1+r.Intn(3))
		for value.Depth(v) < 14+r.Intn(2) {
			v = []api.Value{list(v), list(null, v), list(v, number("1", 0), null), tagged("a", v), recordOf("a", v), recordOf("b a", number("1", 0), v)}[r.Intn(6)]
		}
		e := taking(r, v, 1+r.Intn(5))
		for range r.Intn(3) {
			e = roundabout(r, e)
		}
		c.ask(t, e, v, list(v.List...), list(append(v.List, null, text("x"))...))
	}
	wide := make([]api.Value, 16)
	for i := range wide {
		wide[i] = list(sample(r, []api.Value{null}, 240+r.Intn(16))...)
	}
	for range 300 {
		v := list(append(sample(r, wide, 14+r.Intn(2)), someValue(r, 3))...)
		e := taking(r, v, 1+r.Intn(4))
		for range 1 + r.Intn(2) {
			e = roundabout(r, e)
		}
		c.ask(t, e, v)
	}
	if c.told[api.OK] < 1800 || c.told[api.ErrEvalType] < 1500 || c.told[api.ErrLimit] < 500 {
		t.Errorf("only %v answers, %d mappings made shorter", c.told, c.shorter)
	}
}

// P17.1: a mapping that is refused at one element for another cause than a limit is refused, though one of its parts passes a limit at another element, and is left out.
func TestRefusedBesideLimits(t *testing.T) {
	deep := list(null)
	for range 12 {
		deep = list(deep)
	}
	for _, x := range []struct {
		mapping string
		v       api.Value
	}{
		{"[.a];[tag t;tag u;case{u=case{t=id}}]", list(recordOf("a", deep), null)},
		{"[.a];[tag t;tag u;const 1]", list(recordOf("a", deep), null)},
		{"[.a];[tag t;tag u];count", list(recordOf("a", deep), null)},
		{"[.a];[{x=tag t;tag u,y=id};.y]", list(recordOf("a", deep), null)},
		{"[.a];[{x=tag t;tag u;const 1,y=id}];[.y;const 1];count", list(recordOf("a", deep), null)},
		{"{x=.a;tag t,y=.q};.x", recordOf("a", deep)},
		{"{y=.q,x=.a;tag t;tag u};.x", recordOf("a", list(deep))},
	} {
		e := mappingOf(t, x.mapping)
		if bad := makesSame(t, e, normed(t, e), x.v); bad != api.ErrEvalType {
			t.Errorf("Run(%s) = %d", x.mapping, bad)
		}
		if _, bad := eval.Run(normed(t, e), x.v); bad == api.OK {
			t.Errorf("P17.1: %s made shorter, %s, refuses nothing", x.mapping, short(normed(t, e)))
		}
	}
}

// P17.1: values that are none, or beyond the limits, are refused, also by what asks for nothing.
func TestValuesRefused(t *testing.T) {
	deep := null
	for range 16 {
		deep = list(deep)
	}
	for _, e := range []api.Expr{id, pipe(id, id), pipe(tag("a"), constant(null)), pipe(tag("a"), cases("a", constant(null))), pipe(record("a b", constant(null), id), get("a"))} {
		for _, v := range []api.Value{{}, {Kind: 10}, text("\xff"), list(api.Value{}), number("10", 0)} {
			if bad := makesSame(t, e, normed(t, e), v); bad != api.ErrValueForm {
				t.Errorf("Run(%s, %v) = %d", short(e), v, bad)
			}
		}
		if _, bad := eval.Run(normed(t, e), deep); bad != api.ErrLimit {
			t.Errorf("Run(%s) of what is too deep = %d", short(e), bad)
		}
	}
}

// P17.1, R1: structs of all sorts, some of which are no mappings.
func TestOfAnyStructs(t *testing.T) {
	r := rand.New(rand.NewSource(175))
	c := newTally()
	for range 10000 {
		v := someValue(r, 1+r.Intn(4))
		e := roundabout(r, taking(r, v, 1+r.Intn(4)))
		for range 1 + r.Intn(2) {
			e = broken(r, e)
		}
		c.ask(t, e, v)
		if norm.Size(e) != sizeOf(e) {
			t.Errorf("P17.2: Size(%s) = %d, want %d", short(e), norm.Size(e), sizeOf(e))
		}
	}
	if c.told[api.OK] < 600 || c.told[api.ErrLangForm] < 6000 {
		t.Errorf("only %v answers", c.told)
	}
}

// What is laid round the steps of a mapping in vain is left out again, all of it.
func TestNothingIsLeft(t *testing.T) {
	r := rand.New(rand.NewSource(176))
	for range 5000 {
		v := someValue(r, 1+r.Intn(4))
		e := normed(t, taking(r, v, 1+r.Intn(3)))
		if long := inVain(r, e); lang.Check(long) == api.OK {
			wantNorm(t, long, e)
		}
	}
}

// inVain is e with steps within it that do nothing, or undo one another.
func inVain(r *rand.Rand, e api.Expr) api.Expr {
	l := make([]api.Expr, len(e.List))
	for i, x := range e.List {
		l[i] = inVain(r, x)
	}
	e.List = l
	switch r.Intn(8) {
	case 0:
		return pipe(id, e)
	case 1:
		return pipe(e, id)
	case 2:
		return pipe(tag("t"), cases("s t", sum, e))
	case 3:
		return pipe(record("x y", e, tag("q")), get("x"))
	case 4:
		return pipe(e, pipe(record("x", id), get("x")))
	}
	return e
}

// P17.1, P17.2 of whatever mappings and documents there are.
func FuzzNorm(f *testing.F) {
	for _, x := range [][2]string{{"id ; (id ; .a) ; id", `{"a":1}`}, {"[tag a];[case{a=id,b=sum}];sum", `[1,2]`}, {"{a=sum,b=id};.a", `[1]`}, {"[totext];[totext];[tonum];count", `[1,"a"]`}, {"count;{a=totext,b=tonum;const 1};.b", `[]`}, {"{a=id,b=.x};.a", `{"x":null}`}} {
		f.Add(x[0], x[1])
	}
	f.Fuzz(func(t *testing.T, mapping, document string) {
		e, bad, _ := lang.Parse(mapping)
		v, worse := json.Read([]byte(document))
		if bad == api.OK && worse == api.OK && len(mapping) < 300 && len(document) < 500 {
			newTally().ask(t, e, v)
		}
	})
}
