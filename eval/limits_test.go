package eval_test

import (
	"slices"
	"strconv"
	"strings"
	"testing"

	"calamus/api"
	"calamus/value"
)

// times is a list's elements, n times v.
func times(n int, v api.Value) []api.Value { return slices.Repeat([]api.Value{v}, n) }

// under lays n lists around v.
func under(n int, v api.Value) api.Value {
	for range n {
		v = list(v)
	}
	return v
}

// within lays n mappings over elements around e.
func within(n int, e api.Expr) api.Expr {
	for range n {
		e = mapOf(e)
	}
	return e
}

// manyNames are n names, none of them twice, the first of them for the number from.
func manyNames(from, n int) []string {
	l := make([]string, n)
	for i := range l {
		l[i] = "n" + strconv.Itoa(from+i)
	}
	return l
}

// sizedOf is a list, three deep at most, with n values in it, itself too, at most one more than there may be.
func sizedOf(n int) api.Value {
	v := list()
	for n--; n > 257; n -= 257 {
		v.List = append(v.List, list(times(256, null)...))
	}
	v.List = append(v.List, times(min(n, 200), null)...)
	if n > 200 {
		v.List = append(v.List, list(times(n-201, null)...))
	}
	return v
}

// wantEither asks for what is made, or, if that is beyond a limit, for ErrLimit.
func wantEither(t *testing.T, e api.Expr, v, made api.Value) {
	t.Helper()
	if value.Check(made) == api.OK {
		wantMade(t, e, v, made)
	} else {
		wantRefused(t, e, v, api.ErrLimit)
	}
}

func TestSizedOf(t *testing.T) {
	for _, n := range []int{1, 2, 100, 201, 202, 257, 258, 259, 2000, 4095, 4096, 4097} {
		if v := sizedOf(n); value.Size(v) != n || value.Depth(v) > 3 || (value.Check(v) == api.OK) != (n <= 4096) {
			t.Errorf("sizedOf(%d) has %d values, %d deep", n, value.Size(v), value.Depth(v))
		}
	}
}

// P16.1: how deep a value that is made may be: it has 16 levels at n = 14, where one is laid around.
func TestMadeDeep(t *testing.T) {
	one := number("1", 0)
	for n := range 16 {
		v := under(n, one)
		wantMade(t, id, v, v)
		wantMade(t, within(n, toText), v, under(n, text("1")))
		wantMade(t, record(""), v, recordOf(""))
		wantMade(t, constant(null), v, null)
		wantEither(t, tag("a"), v, tagged("a", v))
		wantEither(t, record("a", id), v, recordOf("a", v))
		wantEither(t, record("a b", constant(null), id), v, recordOf("a b", null, v))
		wantEither(t, record("a b", id, constant(null)), v, recordOf("a b", v, null))
		wantEither(t, record("a b", tag("a"), id), v, recordOf("a b", tagged("a", v), v))
		wantEither(t, pipe(tag("a"), tag("b")), v, tagged("b", tagged("a", v)))
		wantEither(t, within(n, tag("a")), v, under(n, tagged("a", one)))
		wantEither(t, within(n, record("a", id)), v, under(n, recordOf("a", one)))
		wantEither(t, within(n, record("")), v, under(n, recordOf("")))
		if n > 0 {
			wantEither(t, mapOf(tag("a")), v, list(tagged("a", under(n-1, one))))
			wantEither(t, mapOf(tag("a")), list(null, under(n-1, one), null), list(tagged("a", null), tagged("a", under(n-1, one)), tagged("a", null)))
		}
		if n < 15 {
			wantEither(t, cases("u", tag("a")), tagged("u", v), tagged("a", v))
			wantEither(t, cases("u", pipe(tag("a"), tag("b"))), tagged("u", v), tagged("b", tagged("a", v)))
			wantEither(t, pipe(get("a"), tag("b"), tag("c")), recordOf("a", v), tagged("c", tagged("b", v)))
		}
	}
	for n := range 18 {
		deep := null
		for range n {
			deep = tagged("a", deep)
		}
		wantEither(t, pipe(append(slices.Repeat([]api.Expr{tag("a")}, n), id, id)...), null, deep)
	}
}

// P16.1: how many values may be in one that is made.
func TestMadeMany(t *testing.T) {
	for n := 4090; n <= 4096; n++ {
		v := sizedOf(n)
		wantMade(t, id, v, v)
		wantMade(t, mapOf(id), v, v)
		wantEither(t, tag("a"), v, tagged("a", v))
		wantEither(t, record("a", id), v, recordOf("a", v))
		wantEither(t, record("a b", id, constant(null)), v, recordOf("a b", v, null))
		wantEither(t, pipe(tag("a"), tag("b")), v, tagged("b", tagged("a", v)))
		if n < 4096 {
			wantEither(t, mapOf(tag("a")), list(v), list(tagged("a", v)))
			wantEither(t, cases("u", tag("a")), tagged("u", v), tagged("a", v))
			wantEither(t, pipe(get("u"), tag("a"), record("b", id)), recordOf("u", v), recordOf("b", tagged("a", v)))
		}
	}
	for n := 2040; n <= 2050; n++ {
		v := sizedOf(n)
		wantEither(t, record("a b", id, id), v, recordOf("a b", v, v))
		wantEither(t, record("a b c", id, constant(null), id), v, recordOf("a b c", v, null, v))
		wantEither(t, mapOf(record("a", id)), list(v, list(times(200, null)...)), list(recordOf("a", v), recordOf("a", list(times(200, null)...))))
		if v = list(slices.Repeat([]api.Value{list(times(255, null)...)}, n/256)...); n > 2048 {
			wantEither(t, mapOf(mapOf(tag("a"))), v, list(slices.Repeat([]api.Value{list(times(255, tagged("a", null))...)}, n/256)...))
		}
	}
	for n := 10; n <= 30; n++ { // 16 lists of 127 tags are 4081 values, of 128 tags 4113
		v, made := list(), list()
		for range n {
			v.List, made.List = append(v.List, list(times(127, null)...)), append(made.List, list(times(127, tagged("a", null))...))
		}
		wantEither(t, within(2, tag("a")), v, made)
	}
	twice, v := record("a b", id, id), null
	for n := range 14 {
		wantEither(t, pipe(append(slices.Repeat([]api.Expr{twice}, n), id, id)...), null, v)
		v = recordOf("a b", v, v)
	}
	all := api.Expr{Op: api.OpRecord, Names: manyNames(0, 256), List: slices.Repeat([]api.Expr{id}, 256)}
	for _, n := range []int{1, 14, 15, 16, 4096} {
		v := sizedOf(n)
		wantEither(t, all, v, api.Value{Kind: api.KindRecord, Names: manyNames(0, 256), List: times(256, v)})
	}
}

// P16.1: what is as long as it may be is made.
func TestMadeLong(t *testing.T) {
	name, long := strings.Repeat("n", 64), strings.Repeat("\u00e9", 2048)
	wantMade(t, tag(name), null, tagged(name, null))
	wantMade(t, api.Expr{Op: api.OpRecord, Names: []string{name}, List: []api.Expr{id}}, null, recordOf(name, null))
	wantMade(t, get(name), recordOf(name, float(1)), float(1))
	wantMade(t, cases(name, tag("a")), tagged(name, null), tagged("a", null))
	wantMade(t, constant(text(long)), null, text(long))
	wantMade(t, toText, text(long), text(long))
	wantRefused(t, toNum, text(long), api.ErrEvalCoerce)
	wantMade(t, mapOf(tag(name)), list(times(256, null)...), list(times(256, tagged(name, null))...))
	wantMade(t, id, raw(strings.Repeat("\xff", 4096)), raw(strings.Repeat("\xff", 4096)))
}

// P16.1: a limit that is passed on the way is told, whatever is made in the end.
func TestPassedOnTheWay(t *testing.T) {
	for _, v := range []api.Value{under(15, null), sizedOf(4096)} {
		wantRefused(t, pipe(tag("a"), cases("a", id)), v, api.ErrLimit)
		wantRefused(t, pipe(record("a", id), get("a")), v, api.ErrLimit)
		wantRefused(t, pipe(tag("a"), constant(null)), v, api.ErrLimit)
		wantRefused(t, pipe(record("a", id), record("")), v, api.ErrLimit)
		wantRefused(t, record("a b", constant(null), pipe(tag("a"), constant(null))), v, api.ErrLimit)
		wantRefused(t, pipe(pipe(id, tag("a")), constant(null)), v, api.ErrLimit)
		wantMade(t, pipe(constant(null), tag("a")), v, tagged("a", null))
		wantMade(t, pipe(record("n l", count, constant(null)), tag("a")), v, tagged("a", recordOf("n l", number(strconv.Itoa(len(v.List)), 0), null)))
	}
	half := sizedOf(2048)
	wantRefused(t, pipe(record("a b", id, id), get("a")), half, api.ErrLimit)
	wantMade(t, pipe(record("a b", id, id), get("a")), sizedOf(2047), sizedOf(2047))
	wantRefused(t, pipe(mapOf(tag("a")), count), list(under(14, null)), api.ErrLimit)
	wantRefused(t, cases("u", pipe(tag("a"), tag("a"), constant(null))), tagged("u", under(14, null)), api.ErrLimit)
	wantMade(t, cases("u v", pipe(tag("a"), constant(null)), pipe(tag("a"), tag("a"))), tagged("u", under(14, null)), null)
	tags := list(times(255, null)...)
	wantMade(t, pipe(mapOf(record("a b c d e f g", id, id, id, id, id, id, id)), count), tags, number("255", 0))
	wantMade(t, pipe(mapOf(pipe(record("a b", id, id), record("a b", id, id), record("a b", id, id))), count), tags, number("255", 0))
	wantRefused(t, pipe(mapOf(pipe(record("a b", id, id), record("a b", id, id), record("a b", id, id), record("a b", id, id))), count), tags, api.ErrLimit)
	wantRefused(t, pipe(mapOf(record("a b c d e f g h i j k l m n o p q", slices.Repeat([]api.Expr{id}, 17)...)), count), tags, api.ErrLimit)
	wantMade(t, mapOf(pipe(record("a b", id, id), record("a b", id, id), record("a b", id, id), record("a b", id, id), constant(null))), tags, tags) // each alone is small
}

// P16.1: of several errors the first is told, as the table is gone through.
func TestFirstError(t *testing.T) {
	deep, over := under(15, null), tag("t")
	no, coerce := get("q"), pipe(constant(text("x")), toNum)
	for _, x := range []struct {
		e    api.Expr
		v    api.Value
		want api.Errno
	}{
		{record("x y z", no, coerce, over), deep, api.ErrEvalType},
		{record("x y z", over, no, coerce), deep, api.ErrLimit},
		{record("x y z", coerce, over, no), deep, api.ErrEvalCoerce},
		{record("z y x", coerce, over, no), deep, api.ErrEvalCoerce}, // by places, not by names
		{record("x y", id, no), deep, api.ErrEvalType},               // the record's own comes behind
		{record("x y", id, coerce), deep, api.ErrEvalCoerce},
		{record("x y", id, id), deep, api.ErrLimit},
		{pipe(over, no), deep, api.ErrLimit},
		{pipe(no, over), deep, api.ErrEvalType},
		{pipe(coerce, no), deep, api.ErrEvalCoerce},
		{pipe(id, over, no), deep, api.ErrLimit},
		{pipe(pipe(id, over), no), deep, api.ErrLimit},
		{pipe(pipe(id, no), over), deep, api.ErrEvalType},
		{pipe(id, pipe(over, no)), deep, api.ErrLimit},
		{mapOf(no), deep, api.ErrEvalType},
		{mapOf(pipe(over, over, no)), deep, api.ErrLimit},
		{mapOf(pipe(over, no)), deep, api.ErrEvalType}, // an element is less deep
		{mapOf(over), deep, api.ErrLimit},
		{mapOf(no), null, api.ErrEvalType},
		// An element behind another one is gone through ahead of the whole list.
		{mapOf(pipe(record("t x", tag("t"), id), record("y", get("x")), get("y"), cases("t", id))), list(under(14, null), null), api.ErrLimit},
		{mapOf(cases("t u", tag("t"), no)), list(tagged("t", under(13, null)), tagged("u", null)), api.ErrEvalType},
		{mapOf(cases("t u", pipe(over, over), no)), list(tagged("t", under(13, null)), tagged("u", null)), api.ErrEvalType},
		{mapOf(cases("t u", pipe(over, over, over), no)), list(tagged("t", under(13, null)), tagged("u", null)), api.ErrLimit},
		{mapOf(cases("t u", pipe(over, over, over), no)), list(tagged("u", null), tagged("t", under(13, null))), api.ErrEvalType},
		{mapOf(toNum), list(text("1"), text("x"), null), api.ErrEvalCoerce},
		{mapOf(toNum), list(text("1"), null, text("x")), api.ErrEvalType},
		{record("a b", mapOf(toNum), mapOf(toText)), list(text("x"), null), api.ErrEvalCoerce},
		{record("b a", mapOf(toText), mapOf(toNum)), list(text("x"), null), api.ErrEvalType},
		{pipe(mapOf(toNum), sum), list(text("1e400"), text("1"), text("x")), api.ErrEvalCoerce},
		{pipe(mapOf(toNum), sum), list(text("1e400"), text("1"), null), api.ErrEvalType}, // the whole list ahead of its sum
		{sum, list(number("1", 400), number("1", 0), null), api.ErrEvalCoerce},
		{sum, list(number("1", 400), null, number("1", 0)), api.ErrEvalType},
		{sum, list(null, number("1", 400), number("1", 0)), api.ErrEvalType},
		{pipe(over, sum), deep, api.ErrLimit},
		{cases("a", no), tagged("b", null), api.ErrEvalType},
		{cases("a b", no, coerce), tagged("b", null), api.ErrEvalCoerce},
		{cases("a b", coerce, no), tagged("b", null), api.ErrEvalType},
	} {
		wantRefused(t, x.e, x.v, x.want)
	}
	wantMade(t, cases("a b c", tag("x"), no, coerce), tagged("a", null), tagged("x", null)) // others are not gone through
	wantMade(t, mapOf(no), list(), list())
	wantMade(t, mapOf(pipe(no, coerce)), list(), list())
}

// R1: what asks for the most work ends.
func TestMostWork(t *testing.T) {
	all := list(slices.Repeat([]api.Value{list(times(254, null)...)}, 16)...)
	want := list(slices.Repeat([]api.Value{list(times(254, null)...)}, 16)...)
	// Each of 4064 elements becomes a value of close to 4096, which is built anew again and again.
	var grown []api.Expr
	for range 11 {
		grown = append(grown, record("a b", id, id))
	}
	for range 155 {
		grown = append(grown, tag("t"), cases("t", id))
	}
	wantMade(t, within(2, pipe(append(grown, constant(null))...)), all, want)
	// Each becomes a record of many names, of which the last are asked for.
	long := manyNames(0, 254)
	for i := range long {
		long[i] += strings.Repeat("x", 64-len(long[i]))
	}
	wide := api.Expr{Op: api.OpRecord, Names: long, List: slices.Repeat([]api.Expr{id}, 254)}
	gets := api.Expr{Op: api.OpRecord, Names: long[:250], List: slices.Repeat([]api.Expr{get(long[253])}, 250)}
	wantMade(t, within(2, pipe(wide, gets, constant(null))), all, want)
	// Numbers with as many places as there may be, added up and written over and over.
	far := list(slices.Repeat([]api.Value{list(times(254, number("1", -400))...)}, 16)...)
	many := api.Expr{Op: api.OpRecord, Names: long[:240], List: slices.Repeat([]api.Expr{pipe(toText, toNum)}, 80)}
	many.Names = many.Names[:80]
	wantMade(t, within(2, pipe(many, constant(null))), far, want)
	sums := api.Expr{Op: api.OpRecord, Names: long[:250], List: slices.Repeat([]api.Expr{sum}, 250)}
	wantMade(t, mapOf(pipe(sums, get(long[249]))), far, list(times(16, number("254", -400))...))
}
