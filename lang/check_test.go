package lang_test

import (
	"fmt"
	"math"
	"math/rand"
	"slices"
	"strconv"
	"strings"
	"testing"

	"calamus/api"
	"calamus/lang"
)

// places are ways in which a struct may stand within mappings that are within the limits, as long as it is small itself.
func places() []func(e api.Expr) api.Expr {
	return []func(e api.Expr) api.Expr{
		func(e api.Expr) api.Expr { return e },
		mapOf,
		func(e api.Expr) api.Expr { return pipe(e, id) },
		func(e api.Expr) api.Expr { return pipe(id, sum, e) },
		func(e api.Expr) api.Expr { return pipe(pipe(id, e), pipe(e, id)) },
		func(e api.Expr) api.Expr { return record("a b c", id, e, count) },
		func(e api.Expr) api.Expr { return cases("a", e) },
		func(e api.Expr) api.Expr { return cases("a b", get("a"), mapOf(record("a", e))) },
		func(e api.Expr) api.Expr { return under(11, e) },
	}
}

// overPlaces are ways in which a struct may stand within what passes a limit, behind or ahead of it, or further out.
func overPlaces() []func(e api.Expr) api.Expr {
	long := strings.Repeat("n", 65)
	return []func(e api.Expr) api.Expr{
		func(e api.Expr) api.Expr { return pipe(get(long), e) },
		func(e api.Expr) api.Expr { return pipe(e, tag(long)) },
		func(e api.Expr) api.Expr { return record("a "+long, id, e) },
		func(e api.Expr) api.Expr { return cases(long, e) },
		func(e api.Expr) api.Expr { return pipe(constant(text(strings.Repeat("a", 4097))), e) },
		func(e api.Expr) api.Expr { return under(16, e) },
		func(e api.Expr) api.Expr { return under(300, e) },
		func(e api.Expr) api.Expr { return pipe(e, under(15, id)) },
		func(e api.Expr) api.Expr { return pipe(append(times(512, id), e)...) },
		func(e api.Expr) api.Expr { return pipe(append([]api.Expr{e}, times(512, id)...)...) },
		func(e api.Expr) api.Expr {
			w := wide(api.OpRecord, 257)
			w.List[256] = e
			return w
		},
		func(e api.Expr) api.Expr {
			w := wide(api.OpCase, 300)
			w.List[0] = e
			return w
		},
	}
}

// under is e within n mappings, one in the other.
func under(n int, e api.Expr) api.Expr {
	for range n {
		e = mapOf(e)
	}
	return e
}

func times(n int, e api.Expr) []api.Expr { return slices.Repeat([]api.Expr{e}, n) }

// wide is an OpRecord or OpCase of n names.
func wide(op api.Op, n int) api.Expr {
	e := api.Expr{Op: op, List: times(n, id)}
	for i := range n {
		e.Names = append(e.Names, "n"+strconv.Itoa(i))
	}
	return e
}

// wantCheck asks for Check's answer on x, wherever it stands: in what passes a limit OK gives way.
func wantCheck(t *testing.T, what string, x api.Expr, want api.Errno) {
	t.Helper()
	for i, place := range places() {
		if e := lang.Check(place(x)); e != want {
			t.Errorf("P14.1: %s, in place %d: Check = %d, want %d", what, i, e, want)
		}
	}
	if want == api.OK {
		want = api.ErrLimit
	}
	for i, place := range overPlaces() {
		if e := lang.Check(place(x)); e != want {
			t.Errorf("P14.1: %s, in place %d beyond a limit: Check = %d, want %d", what, i, e, want)
		}
		wantUnprinted(t, place(x), want)
	}
}

// someExprs are small mappings of all Ops.
func someExprs() []api.Expr {
	return []api.Expr{
		id, toText, toNum, sum, count, get(""), get("a"), get("\u00e9"), tag(""), tag("id"), tag("a b"),
		record(""), record("a", id), record("a b", id, get("a")), cases(""), cases("a", id), cases("b a", sum, tag("x")),
		mapOf(id), mapOf(mapOf(sum)), pipe(id, id), pipe(id, sum, id), pipe(pipe(id, sum), count), pipe(id, pipe(sum, count)),
		constant(null), constant(flag(false)), constant(flag(true)), constant(one), constant(number(true, "15", -1)), constant(text("")), constant(text("a\x00\"")),
		record("a b", pipe(get("a"), mapOf(toNum), sum), cases("x", constant(one))),
		{Op: api.OpRecord, Names: []string{""}, List: []api.Expr{id}},
		{Op: api.OpCase, Names: []string{"a b", "\u20ac", "id"}, List: []api.Expr{id, id, id}},
	}
}

// noExprs are structs that are no mappings, each for a reason of its own.
func noExprs() []api.Expr {
	return []api.Expr{
		{}, step(-1), step(13), step(math.MaxInt), step(math.MinInt), {Name: "a"}, {List: []api.Expr{id}},
		{Op: api.OpId, Name: "a"}, {Op: api.OpSum, Names: []string{"a"}}, {Op: api.OpCount, List: []api.Expr{id}}, {Op: api.OpToNum, Value: null}, {Op: api.OpToText, Name: "\xff"},
		get("\xff"), tag("a\xc3"), {Op: api.OpGet, Name: "a", Names: []string{"a"}}, {Op: api.OpGet, Name: "a", List: []api.Expr{id}}, {Op: api.OpTag, Name: "a", Value: one}, {Op: api.OpTag, Names: []string{"a"}},
		record("a"), record("", id), record("a b", id), record("a", id, id), record("a a", id, id), record("a b a", id, id, id), record("\xff", id), {Op: api.OpRecord, Name: "a"}, {Op: api.OpRecord, Value: null}, record("a", api.Expr{}),
		cases("a"), cases("", id), cases("a b", id), cases("a", id, id), cases("a a", id, id), cases("a \xff", id, id), {Op: api.OpCase, Name: "a"}, {Op: api.OpCase, Value: null}, cases("a b", id, step(13)),
		{Op: api.OpMap}, {Op: api.OpMap, List: []api.Expr{id, id}}, {Op: api.OpMap, List: []api.Expr{{}}}, {Op: api.OpMap, Name: "a", List: []api.Expr{id}}, {Op: api.OpMap, Names: []string{"a"}, List: []api.Expr{id}}, {Op: api.OpMap, List: []api.Expr{id}, Value: null},
		pipe(), pipe(id), pipe(id, api.Expr{}), pipe(pipe(id), id), {Op: api.OpPipe, Name: "a", List: []api.Expr{id, id}}, {Op: api.OpPipe, Names: []string{"a", "b"}, List: []api.Expr{id, id}}, {Op: api.OpPipe, List: []api.Expr{id, id}, Value: null},
		{Op: api.OpConst}, {Op: api.OpConst, Name: "a", Value: null}, {Op: api.OpConst, Names: []string{"a"}, Value: null}, {Op: api.OpConst, List: []api.Expr{id}, Value: null},
	}
}

// P14.1 of mappings, and of structs that are none, wherever they stand.
func TestCheckOps(t *testing.T) {
	for i, x := range someExprs() {
		wantCheck(t, fmt.Sprintf("mapping %d", i), x, api.OK)
		askExpr(t, x)
	}
	for i, x := range noExprs() {
		wantCheck(t, fmt.Sprintf("struct %d that is no mapping", i), x, api.ErrLangForm)
		askExpr(t, x)
	}
	for op := api.Op(-20); op < 300; op++ {
		if op < 1 || op > 12 {
			wantCheck(t, "no Op", step(op), api.ErrLangForm)
		}
	}
}

// P14.1: of each Op, each field that it may use or not, with each of some contents.
func TestCheckFields(t *testing.T) {
	for op := api.Op(-1); op <= 13; op++ {
		for _, name := range []string{"", "a", "\xff", strings.Repeat("a", 65)} {
			for _, names := range [][]string{nil, {}, {"a"}, {""}, {"a", "b"}, {"a", "a"}, {"\xff"}, {strings.Repeat("a", 65)}} {
				for _, l := range [][]api.Expr{nil, {}, {id}, {id, id}, {id, id, id}, {{}}, {id, {}}} {
					for _, v := range []api.Value{{}, {Names: []string{}, List: []api.Value{}}, null, one, {Flag: true}, {Bits: 1}, {Text: "a"}, {Num: api.Num{Exp: 1}}, {Names: []string{""}}, {List: []api.Value{{}}}} {
						askExpr(t, api.Expr{Op: op, Name: name, Names: names, List: l, Value: v})
					}
				}
			}
		}
	}
}

// P14.1: a list without elements may be nil or not, and has room or not.
func TestCheckNil(t *testing.T) {
	for op := api.OpId; op <= api.OpPipe; op++ {
		x := api.Expr{Op: op, Names: make([]string, 0, 3), List: make([]api.Expr, 0, 3), Value: api.Value{Names: []string{}, List: []api.Value{}}}
		want := api.OK
		switch op {
		case api.OpMap, api.OpConst, api.OpPipe:
			want = api.ErrLangForm
		}
		wantCheck(t, "empty lists", x, want)
	}
	wantCheck(t, "a Value of empty lists", constant(api.Value{Kind: api.KindText, Text: "a", Names: []string{}, List: []api.Value{}}), api.OK)
}

// P14.1: which Values an OpConst may have.
func TestCheckConst(t *testing.T) {
	for _, v := range []api.Value{null, flag(true), one, number(false, "0", 0), number(true, strings.Repeat("9", 40), 400), number(false, "1", -400), text(""), text("\u00e9\x00"), text(strings.Repeat("a", 4096))} {
		wantCheck(t, "a Value", constant(v), api.OK)
	}
	wantCheck(t, "a text that is too long", constant(text(strings.Repeat("a", 4097))), api.ErrLimit)
	wantCheck(t, "one in bytes", constant(text(strings.Repeat("\u00e9", 2048)+"a")), api.ErrLimit)
	for k := api.Kind(-3); k < 20; k++ {
		if k != api.KindNull && k != api.KindBool && k != api.KindText {
			wantCheck(t, "another Kind", constant(api.Value{Kind: k}), api.ErrLangForm)
		}
	}
	for _, v := range []api.Value{
		{Kind: api.KindFloat, Bits: 1}, {Kind: api.KindBytes, Text: "a"}, {Kind: api.KindBytes, Text: strings.Repeat("a", 4097)}, {Kind: api.KindList, List: []api.Value{null}}, {Kind: api.KindRecord, Names: []string{"a"}, List: []api.Value{null}}, {Kind: api.KindTag, Text: "a", List: []api.Value{null}},
		{Kind: api.KindNull, Flag: true}, {Kind: api.KindNull, Text: "a"}, {Kind: api.KindBool, Bits: 1}, {Kind: api.KindBool, List: []api.Value{null}}, {Kind: api.KindText, Names: []string{"a"}}, text("\xff"), text(strings.Repeat("\xff", 4097)),
		number(true, "0", 0), number(false, "", 0), number(false, "01", 0), number(false, "10", 0), number(false, "1", 401), number(false, "1", -401), number(false, strings.Repeat("9", 41), 0), number(false, "a", 0), {Kind: api.KindNum, Num: api.Num{Digits: "1"}, Text: "a"},
	} {
		wantCheck(t, fmt.Sprint("no such Value: ", v.Kind), constant(v), api.ErrLangForm)
	}
}

// P14.1: names are texts, no two of one struct alike.
func TestCheckNames(t *testing.T) {
	one := func(op api.Op, s string) api.Expr { return api.Expr{Op: op, Name: s} }
	many := func(op api.Op, names ...string) api.Expr {
		return api.Expr{Op: op, Names: names, List: times(len(names), id)}
	}
	for _, s := range []string{"", "\x00", "b", " ", "$", "A", "\u00e9", "\u20ac", "\ufffd", "\uffff", "\U0010ffff", "\ud7ff\ue000", strings.Repeat("a", 64), strings.Repeat("\u00e9", 32)} {
		for _, op := range []api.Op{api.OpGet, api.OpTag} {
			wantCheck(t, "a name", one(op, s), api.OK)
		}
		for _, op := range []api.Op{api.OpRecord, api.OpCase} {
			wantCheck(t, "a name", many(op, s), api.OK)
			wantCheck(t, "a name behind another", many(op, "a", s), api.OK)
			wantCheck(t, "a name twice", many(op, s, s), api.ErrLangForm)
			wantCheck(t, "a name twice, apart", many(op, s, "a", s), api.ErrLangForm)
		}
	}
	for _, s := range []string{"\x80", "\xff", "a\xc3", "\xc0\x80", "\xed\xa0\x80", "\xf4\x90\x80\x80", "\xe2\x82", "\u00e9\xa9", strings.Repeat("\xff", 65)} {
		for _, op := range []api.Op{api.OpGet, api.OpTag} {
			wantCheck(t, "no text", one(op, s), api.ErrLangForm)
		}
		for _, op := range []api.Op{api.OpRecord, api.OpCase} {
			wantCheck(t, "no text", many(op, s), api.ErrLangForm)
			wantCheck(t, "no text behind a name", many(op, "a", s), api.ErrLangForm)
			wantCheck(t, "no text ahead of a name", many(op, s, "a"), api.ErrLangForm)
		}
	}
	for _, op := range []api.Op{api.OpRecord, api.OpCase} {
		wantCheck(t, "a name in several", many(op, "a", "b"), api.OK)
		wantCheck(t, "a long name twice", many(op, strings.Repeat("a", 65), strings.Repeat("a", 65)), api.ErrLangForm)
		for _, at := range []int{0, 1, 127, 254} {
			x := wide(op, 256)
			x.Names[255] = x.Names[at]
			wantCheck(t, "a wide one with a name twice", x, api.ErrLangForm)
		}
	}
}

// P14.1: each limit, just met and just passed.
func TestCheckLimits(t *testing.T) {
	a := func(n int) string { return strings.Repeat("a", n) }
	mixed := func(n int) api.Expr { // n deep, through all Ops that have others within
		e := id
		for i := range n - 1 {
			e = []api.Expr{mapOf(e), record("a b", id, e), cases("a", e), pipe(e, id), pipe(id, e, id)}[i%5]
		}
		return e
	}
	for i, x := range []struct{ just, over api.Expr }{
		{get(a(64)), get(a(65))},
		{tag(a(64)), tag(a(65))},
		{tag(strings.Repeat("\u00e9", 32)), tag(strings.Repeat("\u00e9", 32) + "a")},
		{record("b "+a(64), id, id), record("b "+a(65), id, id)},
		{cases(a(64)+" b", id, id), cases(a(65)+" b", id, id)},
		{wide(api.OpRecord, 256), wide(api.OpRecord, 257)},
		{wide(api.OpCase, 256), wide(api.OpCase, 257)},
		{under(15, id), under(16, id)},
		{mixed(16), mixed(17)},
		{pipe(under(14, id), id), pipe(under(15, id), id)},
		{pipe(id, under(14, id)), pipe(id, under(15, id))},
		{under(14, record("a", id)), under(15, record("a", id))},
		{under(15, record("")), under(16, record(""))},
		{under(15, cases("")), under(16, cases(""))},
		{pipe(times(511, id)...), pipe(times(512, id)...)},
		{mapOf(pipe(times(510, id)...)), mapOf(pipe(times(511, id)...))},
		{pipe(times(73, under(6, id))...), pipe(append(times(73, under(6, id)), id)...)},
		{pipe(wide(api.OpRecord, 254), wide(api.OpCase, 255)), pipe(wide(api.OpRecord, 255), wide(api.OpCase, 255))},
		{record("a b", wide(api.OpRecord, 254), pipe(times(255, id)...)), record("a b", wide(api.OpRecord, 254), pipe(times(256, id)...))},
		{constant(text(a(4096))), constant(text(a(4097)))},
	} {
		if e := lang.Check(x.just); e != api.OK {
			t.Errorf("P14.1: limit %d, just met: Check = %d", i, e)
		}
		if e := lang.Check(x.over); e != api.ErrLimit {
			t.Errorf("P14.1: limit %d, passed: Check = %d", i, e)
		}
		askExpr(t, x.just)
		askExpr(t, x.over)
		for n, no := range noExprs() {
			if e := lang.Check(pipe(x.over, no)); e != api.ErrLangForm {
				t.Errorf("P14.1: limit %d, passed ahead of struct %d: Check = %d", i, n, e)
			}
		}
	}
}

// P14.1: how many there are, and how deep, is counted through all Ops.
func TestCheckSizes(t *testing.T) {
	for n := 500; n < 530; n++ {
		for _, x := range []api.Expr{pipe(times(n-1, id)...), mapOf(pipe(times(n-2, id)...)), pipe(append(times(n-7, id), under(5, id))...), record("a b", pipe(times(n/2, id)...), pipe(times(n-3-n/2, id)...)), cases("a", pipe(times(n-2, sum)...))} {
			if all, _ := within(x, 1); len(all) != n {
				t.Fatalf("a mapping of %d has %d", n, len(all))
			}
			askExpr(t, x)
		}
	}
	r := rand.New(rand.NewSource(141))
	for range 1000 {
		x := id
		for range r.Intn(20) {
			x = places()[1+r.Intn(7)](x)
			if all, _ := within(x, 1); len(all) > 1200 {
				break
			}
		}
		askExpr(t, x)
	}
}

// R1: what is far beyond the limits is refused, too, and what stands deep in it is looked at.
func TestCheckFarBeyond(t *testing.T) {
	for _, x := range []api.Expr{under(60000, id), pipe(times(100000, id)...), wide(api.OpRecord, 100000), under(1000, wide(api.OpCase, 1000)), get(strings.Repeat("a", 1<<20)), constant(text(strings.Repeat("a", 1<<20)))} {
		if e := lang.Check(x); e != api.ErrLimit {
			t.Errorf("P14.1: Check = %d", e)
		}
		wantUnprinted(t, x, api.ErrLimit)
	}
	for _, x := range []api.Expr{under(60000, api.Expr{}), pipe(append(times(100000, id), step(13))...), get(strings.Repeat("a", 1<<20) + "\xff")} {
		if e := lang.Check(x); e != api.ErrLangForm {
			t.Errorf("P14.1: Check = %d", e)
		}
	}
}
