package check_test

import (
	"slices"
	"strconv"
	"testing"

	"calamus/api"
	"calamus/types"
)

// under lays n lists around t.
func under(n int, t api.Type) api.Type {
	for range n {
		t = listOf(t)
	}
	return t
}

// within lays n mappings over elements around e.
func within(n int, e api.Expr) api.Expr {
	for range n {
		e = mapOf(e)
	}
	return e
}

// manyNames are n names, none of them twice, the first of them for the number from.
func manyNames(from, n int) []string {
	l := make([]string, n)
	for i := range l {
		l[i] = "n" + strconv.Itoa(from+i)
	}
	return l
}

// wideOf is a record or a union of n names, each with t.
func wideOf(k api.TypeKind, n int, t api.Type) api.Type {
	return api.Type{Kind: k, Names: manyNames(0, n), List: slices.Repeat([]api.Type{t}, n)}
}

// sizedOf is a record, three deep at most, with n types in it, itself too.
func sizedOf(n int) api.Type {
	var l []api.Type
	for n--; n > 257; n -= 257 {
		l = append(l, wideOf(api.TypeRecord, 256, nullType))
	}
	l = append(l, slices.Repeat([]api.Type{nullType}, min(n, 200))...)
	if n > 200 {
		l = append(l, wideOf(api.TypeRecord, n-201, nullType))
	}
	return api.Type{Kind: api.TypeRecord, Names: manyNames(0, len(l)), List: l}
}

// wantEither asks for what is made, or, if that is beyond a limit, for ErrLimit.
func wantEither(t *testing.T, x api.Type, e api.Expr, made api.Type, lossless bool) {
	t.Helper()
	if types.Check(made) == api.OK {
		wantMade(t, x, e, made, lossless)
	} else {
		wantRefused(t, x, e, api.ErrLimit)
	}
}

// P15.1: how deep a type that is made may be: it has 16 levels at n = 14, where one is laid around.
func TestMadeDeep(t *testing.T) {
	for n := range 16 {
		x := under(n, intType)
		wantMade(t, x, id, x, true)
		wantMade(t, x, within(n, toText), under(n, textType), true)
		wantMade(t, x, record(""), recordOf(""), false)
		wantEither(t, x, tag("a"), unionOf("a", x), true)
		wantEither(t, x, record("a", id), recordOf("a", x), true)
		wantEither(t, x, record("a b", constant(null), id), recordOf("a b", nullType, x), true)
		wantEither(t, x, record("a b", tag("a"), id), recordOf("a b", unionOf("a", x), x), true)
		wantEither(t, x, pipe(tag("a"), tag("b")), unionOf("b", unionOf("a", x)), true)
		wantEither(t, x, within(n, tag("a")), under(n, unionOf("a", intType)), true)
		wantEither(t, x, within(n, record("a", id)), under(n, recordOf("a", intType)), true)
		if n > 0 {
			wantEither(t, x, mapOf(tag("a")), listOf(unionOf("a", under(n-1, intType))), true)
		}
		if n < 15 {
			wantEither(t, unionOf("u", x), cases("u", tag("a")), unionOf("a", x), true)
			wantEither(t, unionOf("u", x), cases("u", pipe(tag("a"), tag("b"))), unionOf("b", unionOf("a", x)), true)
		}
	}
	for n := range 18 {
		deep := intType
		for range n {
			deep = unionOf("a", deep)
		}
		wantEither(t, intType, pipe(append(slices.Repeat([]api.Expr{tag("a")}, n), id, id)...), deep, true)
	}
}

// P15.1: how many types may be in one that is made.
func TestMadeMany(t *testing.T) {
	for n := 4090; n <= 4096; n++ {
		x := sizedOf(n)
		wantMade(t, x, id, x, true)
		wantEither(t, x, tag("a"), unionOf("a", x), true)
		wantEither(t, x, record("a", id), recordOf("a", x), true)
		wantEither(t, x, record("a b", id, constant(null)), recordOf("a b", x, nullType), true)
		wantEither(t, x, pipe(tag("a"), tag("b")), unionOf("b", unionOf("a", x)), true)
		if n < 4096 {
			wantEither(t, listOf(x), mapOf(tag("a")), listOf(unionOf("a", x)), true)
			wantEither(t, unionOf("u", x), cases("u", tag("a")), unionOf("a", x), true)
		}
	}
	for n := 2040; n <= 2050; n++ {
		x := sizedOf(n)
		wantEither(t, x, record("a b", id, id), recordOf("a b", x, x), true)
		wantEither(t, x, record("a b c", id, constant(null), id), recordOf("a b c", x, nullType, x), true)
	}
	twice, x := record("a b", id, id), intType
	for n := range 14 {
		wantEither(t, intType, pipe(append(slices.Repeat([]api.Expr{twice}, n), id, id)...), x, true)
		x = recordOf("a b", x, x)
	}
	all := api.Expr{Op: api.OpRecord, Names: manyNames(0, 256), List: slices.Repeat([]api.Expr{id}, 256)}
	wantMade(t, recordOf("a", intType), all, wideOf(api.TypeRecord, 256, recordOf("a", intType)), true)
	wantMade(t, sizedOf(15), all, wideOf(api.TypeRecord, 256, sizedOf(15)), true)
	wantRefused(t, sizedOf(16), all, api.ErrLimit)
	wantRefused(t, sizedOf(4096), all, api.ErrLimit)
}

// P15.1: a limit that is passed on the way is told, whatever is made in the end.
func TestPassedOnTheWay(t *testing.T) {
	for _, x := range []api.Type{under(15, intType), sizedOf(4096)} {
		wantRefused(t, x, pipe(tag("a"), cases("a", id)), api.ErrLimit)
		wantRefused(t, x, pipe(record("a", id), get("a")), api.ErrLimit)
		wantRefused(t, x, pipe(tag("a"), constant(null)), api.ErrLimit)
		wantRefused(t, x, pipe(record("a", id), record("")), api.ErrLimit)
		wantRefused(t, x, record("a b", constant(null), pipe(tag("a"), constant(null))), api.ErrLimit)
		wantRefused(t, x, pipe(pipe(id, tag("a")), constant(null)), api.ErrLimit)
		wantMade(t, x, pipe(constant(null), tag("a")), unionOf("a", nullType), false)
	}
	half := sizedOf(2048)
	wantRefused(t, half, pipe(record("a b", id, id), get("a")), api.ErrLimit)
	wantMade(t, sizedOf(2047), pipe(record("a b", id, id), get("a")), sizedOf(2047), false)
	wantRefused(t, listOf(under(14, intType)), pipe(mapOf(tag("a")), count), api.ErrLimit)
	wantRefused(t, unionOf("u", under(14, intType)), cases("u", pipe(tag("a"), tag("a"), constant(null))), api.ErrLimit)
}

// P15.1: a Join never passes a limit: it is any instead.
func TestJoinedAtLimits(t *testing.T) {
	some := func(from, n int) api.Type {
		return api.Type{Kind: api.TypeUnion, Names: manyNames(from, n), List: slices.Repeat([]api.Type{intType}, n)}
	}
	both := cases("a b", id, id)
	wantMade(t, unionOf("a b", some(0, 200), some(200, 56)), both, some(0, 256), true)
	wantMade(t, unionOf("a b", some(0, 200), some(100, 156)), both, some(0, 256), false)
	wantMade(t, unionOf("a b", some(0, 200), some(200, 57)), both, anyType, true) // any, but apart all the same
	wantMade(t, unionOf("a b", some(0, 200), some(100, 157)), both, anyType, false)
	wantMade(t, unionOf("a b c", some(0, 200), some(200, 57), some(300, 1)), cases("a b c", id, id, id), anyType, true)
	thrice := func(name string) api.Expr { return pipe(record("x y z", id, id, id), tag(name)) }
	x := sizedOf(1000)
	wide := recordOf("x y z", x, x, x)
	wantMade(t, unionOf("a b", x, intType), cases("a b", thrice("p"), tag("q")), unionOf("p q", wide, intType), true)
	wantMade(t, unionOf("a b", x, x), cases("a b", thrice("p"), thrice("q")), anyType, true)
	wantMade(t, unionOf("a b", x, x), cases("a b", thrice("p"), thrice("p")), unionOf("p", wide), false)
	wantMade(t, unionOf("a b", x, x), pipe(cases("a b", thrice("p"), thrice("q")), tag("r")), unionOf("r", anyType), true)
	// As many names as there may be, each with a branch of its own.
	in, e := wideOf(api.TypeUnion, 256, sizedOf(14)), api.Expr{Op: api.OpCase, Names: manyNames(0, 256)}
	for i := range 256 {
		e.List = append(e.List, tag(in.Names[255-i]))
	}
	made := api.Type{Kind: api.TypeUnion, Names: slices.Clone(in.Names), List: in.List}
	slices.Reverse(made.Names)
	wantMade(t, in, e, made, true)
	e.List[255] = tag(made.Names[0])
	made.Names, made.List = made.Names[:255], made.List[:255]
	wantMade(t, in, e, made, false)
}

// P15.1: of several errors the first is told, as the table is gone through.
func TestFirstError(t *testing.T) {
	deep, no, over := under(15, intType), get("q"), tag("a")
	for _, x := range []struct {
		in   api.Type
		e    api.Expr
		want api.Errno
	}{
		{deep, record("x y", no, over), api.ErrCheckType},
		{deep, record("x y", over, no), api.ErrLimit},
		{deep, record("y x", over, no), api.ErrLimit},
		{deep, record("x y", id, no), api.ErrCheckType}, // the record's own comes behind
		{deep, record("x y z", id, over, no), api.ErrLimit},
		{deep, pipe(over, no), api.ErrLimit},
		{deep, pipe(no, over), api.ErrCheckType},
		{deep, pipe(id, over, no), api.ErrLimit},
		{deep, pipe(pipe(id, over), no), api.ErrLimit},
		{deep, pipe(pipe(id, no), over), api.ErrCheckType},
		{deep, pipe(id, pipe(over, no)), api.ErrLimit},
		{deep, mapOf(no), api.ErrCheckType},
		{deep, mapOf(pipe(over, over, no)), api.ErrLimit},
		{deep, mapOf(pipe(over, no)), api.ErrCheckType}, // an element is less deep
		{deep, mapOf(pipe(no, over, over)), api.ErrCheckType},
		{intType, mapOf(api.Expr{Op: api.OpRecord}), api.ErrCheckType},
		{listOf(unionOf("a", intType)), mapOf(cases("b", id)), api.ErrCheckType},
		// The union has the names a and b, in this order; a is so deep that two tags pass the limit.
		{unionOf("a b", under(14, intType), intType), cases("a", pipe(over, over)), api.ErrCheckType},
		{unionOf("a b", under(14, intType), intType), cases("a c", pipe(over, over), id), api.ErrCheckType},
		{unionOf("a b", under(14, intType), intType), cases("a b", pipe(over, over), no), api.ErrLimit},
		{unionOf("a b", under(14, intType), intType), cases("b a", no, pipe(over, over)), api.ErrLimit},
		{unionOf("b a", intType, under(14, intType)), cases("a b", pipe(over, over), no), api.ErrCheckType},
		{unionOf("b a", intType, under(14, intType)), cases("a b", pipe(over, over), id), api.ErrLimit},
		{unionOf("b a", intType, under(14, intType)), cases("a b c", id, no, pipe(over, over)), api.ErrCheckType},
	} {
		wantRefused(t, x.in, x.e, x.want)
	}
	wantMade(t, unionOf("a", intType), cases("a b c", tag("x"), no, within(14, no)), unionOf("x", intType), true) // others are not gone through
}

// R1: what asks for the most work ends.
func TestMostWork(t *testing.T) {
	long := manyNames(0, 256)
	for i := range long {
		long[i] += string(make([]byte, 60-len(long[i])))
	}
	big := api.Type{Kind: api.TypeRecord, Names: long[:15]} // about as many types, and as long names, as there may be
	for range 15 {
		big.List = append(big.List, api.Type{Kind: api.TypeRecord, Names: long, List: slices.Repeat([]api.Type{nullType}, 256)})
	}
	wantMade(t, big, pipe(slices.Repeat([]api.Expr{id}, 511)...), big, true)
	same := api.Expr{Op: api.OpRecord, Names: big.Names}
	for _, name := range big.Names {
		same.List = append(same.List, get(name))
	}
	wantMade(t, big, pipe(slices.Repeat([]api.Expr{same}, 31)...), big, true)
	wantRefused(t, big, api.Expr{Op: api.OpRecord, Names: long, List: slices.Repeat([]api.Expr{id}, 256)}, api.ErrLimit)
	gets := api.Expr{Op: api.OpRecord, Names: long[:255]}
	for _, name := range long[:255] {
		gets.List = append(gets.List, get(name))
	}
	wantMade(t, big.List[0], gets, api.Type{Kind: api.TypeRecord, Names: long[:255], List: big.List[0].List[:255]}, false)
	deep := id
	for range 5 {
		deep = pipe(record("a", pipe(id, deep)), get("a"))
	}
	wantMade(t, intType, deep, intType, true)
}
