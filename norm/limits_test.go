package norm_test

import (
	"slices"
	"testing"
	"time"

	"calamus/api"
	"calamus/lang"
	"calamus/norm"
)

// nest is n deep, and no rule knows anything of it.
func nest(n int) api.Expr {
	e := get("a")
	for range n - 1 {
		e = cases("a", e)
	}
	return e
}

// deepOf tells how deep e is.
func deepOf(e api.Expr) int {
	most := 0
	for _, x := range e.List {
		most = max(most, deepOf(x))
	}
	return 1 + most
}

// P17.1: two OpMaps are made one, if what is made is not too deep: in a longer row it is deeper by one.
func TestJoinedDeep(t *testing.T) {
	for n := 1; n <= 14; n++ {
		x := nest(n)
		wantNorm(t, pipe(mapOf(x), mapOf(count)), mapOf(pipe(x, count)))
		wantNorm(t, pipe(mapOf(count), mapOf(x)), mapOf(pipe(count, x)))
		wantNorm(t, pipe(mapOf(x), mapOf(x)), mapOf(pipe(x, x)))
		long, joined := pipe(mapOf(x), mapOf(count), sum), pipe(mapOf(pipe(x, count)), sum)
		if deepOf(joined) > 16 {
			joined = long
		}
		wantNorm(t, long, joined)
		long, joined = pipe(get("b"), mapOf(count), mapOf(x)), pipe(get("b"), mapOf(pipe(count, x)))
		if deepOf(joined) > 16 {
			joined = long
		}
		wantNorm(t, long, joined)
		if n < 14 {
			wantNorm(t, pipe(mapOf(pipe(x, x)), mapOf(x), sum), pipe(mapOf(pipe(x, x, x)), sum))
			wantNorm(t, pipe(mapOf(x), mapOf(pipe(x, x)), sum), pipe(mapOf(pipe(x, x, x)), sum))
			wantNorm(t, pipe(mapOf(pipe(x, x)), mapOf(pipe(x, x)), sum), pipe(mapOf(pipe(x, x, x, x)), sum))
		}
	}
	wantNorm(t, pipe(mapOf(nest(14)), mapOf(count), sum), pipe(mapOf(nest(14)), mapOf(count), sum))
	wantNorm(t, pipe(mapOf(nest(13)), mapOf(count), sum), pipe(mapOf(pipe(nest(13), count)), sum))
	// Of three, the two that are not deep.
	wantNorm(t, pipe(mapOf(nest(14)), mapOf(count), mapOf(tag("t")), get("b")), pipe(mapOf(nest(14)), mapOf(pipe(count, tag("t"))), get("b")))
	wantNorm(t, pipe(mapOf(count), mapOf(tag("t")), mapOf(nest(14)), get("b")), pipe(mapOf(pipe(count, tag("t"))), mapOf(nest(14)), get("b")))
	wantNorm(t, pipe(mapOf(pipe(get("b"), nest(13))), mapOf(nest(14)), get("b")), pipe(mapOf(pipe(get("b"), nest(13))), mapOf(nest(14)), get("b")))
}

// P17.1: the same where the row itself stands deep, in whatever.
func TestJoinedDeepWithin(t *testing.T) {
	for n := 1; n <= 13; n++ {
		for out := range 16 - n {
			long, joined := pipe(mapOf(nest(n)), mapOf(count), sum), pipe(mapOf(pipe(nest(n), count)), sum)
			two, one := pipe(mapOf(nest(n)), mapOf(count)), mapOf(pipe(nest(n), count))
			for i := range out {
				around := []func(e api.Expr) api.Expr{mapOf, func(e api.Expr) api.Expr { return cases("c", e) }, func(e api.Expr) api.Expr { return record("r s", id, e) }, func(e api.Expr) api.Expr { return pipe(get("p"), e) }}[(i+out)%4]
				if i == 0 { // else the row is part of another one
					around = mapOf
				}
				long, joined, two, one = around(long), around(joined), around(two), around(one)
			}
			if lang.Check(long) != api.OK {
				continue
			}
			if deepOf(joined) > 16 {
				joined = long
			}
			wantNorm(t, long, joined)
			wantNorm(t, two, one)
		}
	}
}

// P17.1, P17.2: what becomes less deep has room for more; it is found at once, not when Norm is done once more.
func TestRoomIsFound(t *testing.T) {
	for n := 1; n <= 14; n++ {
		row, joined := pipe(mapOf(nest(n)), mapOf(count), sum), pipe(mapOf(pipe(nest(n), count)), sum)
		if deepOf(joined) > 16 {
			joined = row
		}
		for _, around := range []func(e api.Expr) api.Expr{
			func(e api.Expr) api.Expr { return pipe(e, id) },
			func(e api.Expr) api.Expr { return pipe(pipe(id, e), id) },
			func(e api.Expr) api.Expr { return pipe(tag("t"), cases("t", e)) },
			func(e api.Expr) api.Expr { return pipe(record("x y", id, e), get("y")) },
		} {
			if e := around(row); lang.Check(e) == api.OK {
				wantNorm(t, e, joined)
			}
		}
	}
	row := pipe(mapOf(nest(10)), mapOf(count), sum)
	for _, e := range []api.Expr{pipe(tag("a"), cases("a", pipe(tag("b"), cases("b", row)))), pipe(record("a", pipe(record("b", row), get("b"))), get("a"))} {
		wantNorm(t, e, pipe(mapOf(pipe(nest(10), count)), sum))
	}
}

// P17.1: what is as large or as deep as it may be is taken.
func TestMost(t *testing.T) {
	wantNorm(t, pipe(slices.Repeat([]api.Expr{get("a")}, 511)...), pipe(slices.Repeat([]api.Expr{get("a")}, 511)...))
	wantNorm(t, pipe(slices.Repeat([]api.Expr{mapOf(get("a"))}, 255)...), mapOf(pipe(slices.Repeat([]api.Expr{get("a")}, 255)...)))
	wantNorm(t, pipe(wide(api.OpRecord, 254), wide(api.OpCase, 255)), pipe(wide(api.OpRecord, 254), wide(api.OpCase, 255)))
	wantNorm(t, nest(16), nest(16))
	wantNorm(t, within(15, pipe(id, id).List[0]), within(15, id))
	wantNorm(t, within(14, pipe(id, id)), within(14, id))
	wantNorm(t, within(14, pipe(id, get("a"))), within(14, get("a")))
	e, deep := get("a"), get("a")
	for range 7 {
		e, deep = mapOf(pipe(id, e, get("b"))), mapOf(pipe(deep, get("b")))
	}
	wantNorm(t, e, deep)
}

// laborious are mappings of about 512 that keep the rules busy.
func laborious() map[string]api.Expr {
	rep := func(n int, l ...api.Expr) []api.Expr { return slices.Repeat(l, n) }
	stuck := record("a", get("q"))
	for range 11 {
		stuck = record("a b", pipe(stuck, get("b"), constant(null)), pipe(record("x y", stuck, id), get("z")))
		if sizeOf(stuck) > 150 {
			break
		}
	}
	nested := id
	for range 13 {
		nested = pipe(append(rep(35, tag("t")), nested, constant(null))...)
	}
	return map[string]api.Expr{
		"ids":           pipe(rep(511, id)...),
		"gets":          pipe(rep(511, get("a"))...),
		"twice":         pipe(rep(511, toNum)...),
		"there, back":   pipe(rep(255, toText, toNum)...),
		"tags":          pipe(rep(170, tag("a"), cases("a", id))...),
		"others' tags":  pipe(rep(170, tag("a"), cases("b", id))...),
		"records":       pipe(rep(170, record("a", id), get("a"))...),
		"constants":     pipe(rep(255, tag("a"), constant(null))...),
		"lists":         pipe(append(rep(254, mapOf(tag("a"))), count)...),
		"lists of gets": pipe(append(rep(254, mapOf(get("a"))), count)...),
		"counted":       pipe(mapOf(pipe(rep(508, tag("a"))...)), count),
		"stuck":         pipe(append([]api.Expr{stuck, get("a")}, rep(500-sizeOf(stuck), id)...)...),
		"nested":        nested,
		"deep":          within(13, pipe(rep(240, mapOf(get("a")))...)),
	}
}

// R1: what takes many rules is done in a time that nobody minds.
func TestMostWork(t *testing.T) {
	for name, e := range laborious() {
		if bad := lang.Check(e); bad != api.OK {
			t.Fatalf("%s: Check = %d, of %d mappings", name, bad, sizeOf(e))
		}
		began := time.Now()
		norm.Norm(e)
		if took := time.Since(began); took > 5*time.Second {
			t.Errorf("R1: %s took %v", name, took)
		} else if testing.Verbose() {
			t.Log(name, sizeOf(e), took)
		}
		for _, v := range []api.Value{null, number("1", 0), list(recordOf("a", null)), tagged("a", null), recordOf("a", recordOf("a", null))} {
			makesSame(t, e, normed(t, e), v)
		}
	}
}
