package run_test

import (
	"slices"
	"strings"
	"testing"

	"calamus/api"
	"calamus/value"
)

// wantLimit asks, and whether a limit is told to be passed.
func wantLimit(t *testing.T, e api.Expr, v api.Value, passed bool) {
	t.Helper()
	want := api.OK
	if passed {
		want = api.ErrLimit
	}
	for _, next := range []cut{oneByOne, atOnce} {
		if bad := ask(t, e, v, next); bad != want {
			t.Errorf("P19.2: %s of %s: eval.Run = %d, want %d", short(e), short(v), bad, want)
		}
		if x := talkOf(t, e, eventsOf(v), next); x.bad != want {
			t.Errorf("P19.2: %s of %s: %d, want %d", short(e), short(v), x.bad, want)
		}
	}
}

// P19.2, T6: what is fed is held against the limits, as eval does, where it is not told as it came.
func TestFedLimits(t *testing.T) {
	named := func(n int) api.Value {
		return api.Value{Kind: api.KindRecord, Names: manyNames(n), List: times(n, null)}
	}
	long := func(n int) string { return strings.Repeat("a", n) }
	over := []api.Value{
		text(long(4097)), raw(long(4097)), tagged(long(65), null), api.Value{Kind: api.KindRecord, Names: []string{long(65)}, List: []api.Value{null}},
		list(times(257, null)...), named(257), under(16, null), tagged("a", under(15, null)), under(15, tagged("a", null)), under(15, recordOf("a", null)), sizedOf(4097),
	}
	most := []api.Value{
		text(long(4096)), raw(long(4096)), tagged(long(64), null), api.Value{Kind: api.KindRecord, Names: []string{long(64)}, List: []api.Value{null}},
		list(times(256, null)...), named(256), under(15, null), tagged("a", under(14, null)), under(14, tagged("a", null)), under(14, recordOf("a", null)), sizedOf(4096),
	}
	for i, v := range over {
		for _, e := range []api.Expr{pipe(id, id), record(""), constant(null), pipe(constant(null), tag("a"))} {
			wantLimit(t, e, v, true)
			wantLimit(t, e, most[i], false)
		}
		wantLimit(t, id, most[i], false)
		if value.Check(v) != api.ErrLimit || value.Check(most[i]) != api.OK {
			t.Errorf("%s is %d, %s %d", short(v), value.Check(v), short(most[i]), value.Check(most[i]))
		}
	}
	// also where nothing is made of it
	for i, v := range []api.Value{text(long(4097)), tagged(long(65), null), under(15, null), list(times(257, null)...)} {
		wantLimit(t, get("a"), recordOf("a b", null, v), true)
		wantLimit(t, get("a"), recordOf("b a", v, null), true)
		wantLimit(t, count, list(v), true)
		wantLimit(t, mapOf(constant(null)), list(null, v), true)
		if i == 2 {
			wantLimit(t, get("a"), recordOf("b a", under(14, null), null), false)
		}
	}
}

// P19.2, T6: how deep what is made may be.
func TestMadeDeep(t *testing.T) {
	one := number("1", 0)
	for n := range 16 {
		v := under(n, one)
		wantLimit(t, pipe(id, id), v, false)
		wantLimit(t, within(n, toText), v, false)
		wantLimit(t, within(n, record("")), v, false)
		for _, e := range []api.Expr{tag("a"), record("a", id), record("a b", constant(null), id), record("a b", id, constant(null)), within(n, tag("a")), pipe(tag("a"), cases("a", id))} {
			wantLimit(t, e, v, n == 15)
		}
		wantLimit(t, pipe(tag("a"), tag("b")), v, n >= 14)
		wantLimit(t, pipe(record("a", tag("b")), get("a")), v, n >= 14)
		wantLimit(t, record("a b", tag("a"), id), v, n >= 14)
		wantLimit(t, record("a b", id, record("c", id)), v, n >= 14)
		if n < 15 {
			wantLimit(t, within(n, record("a", id)), v, false)
			wantLimit(t, mapOf(tag("a")), list(null, v, null), n == 14)
			wantLimit(t, cases("u", tag("a")), tagged("u", v), false)
			wantLimit(t, cases("u", pipe(tag("a"), tag("b"))), tagged("u", v), n == 14)
			wantLimit(t, pipe(get("a"), tag("b")), recordOf("a", v), false)
			wantLimit(t, mapOf(pipe(tag("a"), constant(null))), list(v), n == 15)
		}
	}
	for n := range 18 {
		wantLimit(t, pipe(append(slices.Repeat([]api.Expr{tag("a")}, n), id, id)...), null, n > 15)
		wantLimit(t, pipe(append(slices.Repeat([]api.Expr{record("a", id)}, n), id, id)...), null, n > 15)
	}
}

// P19.2, T6: how many values may be in what is made.
func TestMadeMany(t *testing.T) {
	for n := 4092; n <= 4096; n++ {
		v := sizedOf(n)
		wantLimit(t, mapOf(id), v, false)
		wantLimit(t, tag("a"), v, n > 4095)
		wantLimit(t, record("a", id), v, n > 4095)
		wantLimit(t, record("a b", id, constant(null)), v, n > 4094)
		wantLimit(t, record("a b", constant(null), id), v, n > 4094)
		wantLimit(t, pipe(tag("a"), tag("b")), v, n > 4094)
		if n < 4096 {
			wantLimit(t, mapOf(tag("a")), list(v), n > 4094)
			wantLimit(t, cases("u", tag("a")), tagged("u", v), false)
			wantLimit(t, pipe(get("u"), tag("a"), record("b", id)), recordOf("u", v), n > 4094)
		}
	}
	for n := 2045; n <= 2050; n++ {
		v := sizedOf(n)
		wantLimit(t, record("a b", id, id), v, 2*n+1 > 4096)
		wantLimit(t, record("a b c", id, constant(null), id), v, 2*n+2 > 4096)
		wantLimit(t, record("a b", record("c", id), id), v, 2*n+2 > 4096)
	}
	for n := 10; n <= 18; n++ { // 16 lists of 127 tags are 4081 values
		wantLimit(t, within(2, tag("a")), list(times(n, list(times(127, null)...))...), n > 16)
		wantLimit(t, pipe(within(2, tag("a")), constant(null)), list(times(n, list(times(127, null)...))...), n > 16)
	}
	twice := record("a b", id, id)
	for n := range 14 { // each time twice as many, and one more
		wantLimit(t, pipe(append(slices.Repeat([]api.Expr{twice}, n), id, id)...), null, n > 11)
		wantLimit(t, mapOf(pipe(append(slices.Repeat([]api.Expr{twice}, n), id, constant(null))...)), list(null, null, null), n > 11) // counted of each element anew
	}
}

// P19.2: numbers that are made have limits of their own.
func TestMadeNumbers(t *testing.T) {
	for _, x := range []struct {
		e       api.Expr
		v       api.Value
		refused bool
	}{
		{sum, list(number("1", 400), number("1", 361)), false},
		{sum, list(number("1", 400), number("1", 360)), true},
		{sum, list(number(nines, 400), number(nines, 400)), true},
		{sum, list(number("1", 400), below("1", 400), number("1", -400)), false},
		{toNum, text("1e400"), false},
		{toNum, text("1e401"), true},
		{toNum, text(strings.Repeat("0", 511) + "1"), true},
		{toNum, text(nines), false},
		{toNum, text(nines + "1"), true},
	} {
		bad := ask(t, x.e, x.v, oneByOne)
		if (bad != api.OK) != x.refused || x.refused && bad != api.ErrEvalCoerce {
			t.Errorf("P19.2: %s of %s: %d", short(x.e), short(x.v), bad)
		}
		if y := talkOf(t, x.e, eventsOf(x.v), oneByOne); y.bad != bad {
			t.Errorf("P19.2: %s of %s: %d, want %d", short(x.e), short(x.v), y.bad, bad)
		}
	}
}
