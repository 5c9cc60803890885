package lang_test

import (
	"math"
	"math/rand"
	"strconv"
	"strings"
	"testing"

	"calamus/api"
	"calamus/lang"
	"calamus/types"
)

// someExpr makes a mapping of up to depth deep.
func someExpr(r *rand.Rand, depth int) api.Expr {
	k := 8
	if depth > 1 {
		k = 14
	}
	name := func() string {
		return []string{"a", "b", "id", "", "a b", "A9_", "9a", "\u00e9", "\"\\\x1f", "null"}[r.Intn(10)]
	}
	list := func(n int) []api.Expr {
		var l []api.Expr
		for range n {
			l = append(l, someExpr(r, depth-1))
		}
		return l
	}
	switch r.Intn(k) {
	case 0:
		return id
	case 1:
		return []api.Expr{toText, toNum, sum, count}[r.Intn(4)]
	case 2, 3:
		return get(name())
	case 4:
		return tag(name())
	case 5:
		return constant([]api.Value{null, flag(false), flag(true)}[r.Intn(3)])
	case 6:
		return constant(text(name()))
	case 7:
		return constant(number(r.Intn(2) == 0, []string{"1", "25", strings.Repeat("9", 40)}[r.Intn(3)], []int{0, 1, -1, 400, -400, -30}[r.Intn(6)]))
	case 8, 9:
		return mapOf(list(1)[0])
	case 10, 11:
		return pipe(list(2 + r.Intn(3))...)
	}
	names := []string{"a", "b", "id", "", "a b", "\u00e9"}
	var e api.Expr
	for _, i := range r.Perm(6)[:r.Intn(4)] {
		e.Names = append(e.Names, names[i])
	}
	e.Op, e.List = []api.Op{api.OpRecord, api.OpCase}[r.Intn(2)], list(len(e.Names))
	return e
}

// someTypeStruct makes a type of up to depth deep.
func someTypeStruct(r *rand.Rand, depth int) api.Type {
	if depth == 1 || r.Intn(3) == 0 {
		return plainType(api.TypeKind(1 + r.Intn(8)))
	}
	if r.Intn(3) == 0 {
		return listType(someTypeStruct(r, depth-1))
	}
	t := api.Type{Kind: []api.TypeKind{api.TypeRecord, api.TypeUnion}[r.Intn(2)]}
	for _, i := range r.Perm(6)[:r.Intn(4)] {
		t.Names = append(t.Names, []string{"a", "b", "list", "", "a b", "\x00"}[i])
		t.List = append(t.List, someTypeStruct(r, depth-1))
	}
	return t
}

// brokenExpr is e with something in it changed, so that it is mostly no mapping any more.
func brokenExpr(r *rand.Rand, e api.Expr) api.Expr {
	if len(e.List) > 0 && r.Intn(3) > 0 {
		e.List = append([]api.Expr(nil), e.List...)
		i := r.Intn(len(e.List))
		e.List[i] = brokenExpr(r, e.List[i])
		return e
	}
	switch r.Intn(7) {
	case 0:
		e.Op = api.Op(r.Intn(15) - 1)
	case 1:
		e.Name += []string{"a", "\xff", strings.Repeat("a", 65)}[r.Intn(3)]
	case 2:
		e.Names = append(append([]string(nil), e.Names...), []string{"a", "\xff", "z"}[r.Intn(3)])
	case 3:
		e.List = append(append([]api.Expr(nil), e.List...), []api.Expr{id, {}, get("\xff")}[r.Intn(3)])
	case 4:
		e.List = e.List[:len(e.List)/2]
	case 5:
		e.Value.Kind = api.Kind(r.Intn(11))
	case 6:
		e.Value.Text += []string{"a", "\xff"}[r.Intn(2)]
	}
	return e
}

// P14.1, P14.3 of mappings of all sorts, whole and changed.
func TestSomeExprs(t *testing.T) {
	r := rand.New(rand.NewSource(144))
	good, bad := 0, 0
	for range 10000 {
		m := someExpr(r, 1+r.Intn(5))
		for range 3 {
			if _, e := askExpr(t, m); e == api.OK {
				good++
			} else {
				bad++
			}
			m = brokenExpr(r, m)
		}
	}
	if good < 8000 || bad < 8000 {
		t.Errorf("%d are printed, %d are not: too few of one sort", good, bad)
	}
}

// P14.5 of types of all sorts.
func TestSomeTypes(t *testing.T) {
	r := rand.New(rand.NewSource(145))
	for range 10000 {
		askType(t, someTypeStruct(r, 1+r.Intn(5)))
	}
}

// P14.3, P14.5: a name is printed as a WordName just if it is one, wherever it stands.
func TestNames(t *testing.T) {
	var names []string
	for c := range 256 {
		for _, form := range []string{"%", "a%", "%a", "a%a", "0%"} {
			names = append(names, strings.ReplaceAll(form, "%", string([]byte{byte(c)})), strings.ReplaceAll(form, "%", string(rune(c))))
		}
	}
	names = append(names, "", "\u20ac", "\u017f", "\u212a", "\uff21", "a b", "a.b", `\u0041`, strings.Repeat("a", 64), strings.Repeat("a", 63)+"$", strings.Repeat("a", 65), strings.Repeat("$", 64))
	for _, s := range append(names, ownWords()...) {
		askExpr(t, get(s))
		askExpr(t, tag(s))
		askExpr(t, api.Expr{Op: api.OpRecord, Names: []string{"x1", s}, List: []api.Expr{id, id}})
		askExpr(t, api.Expr{Op: api.OpCase, Names: []string{s}, List: []api.Expr{id}})
		askExpr(t, constant(text(s)))
		askType(t, api.Type{Kind: api.TypeRecord, Names: []string{s}, List: []api.Type{anyType}})
		askType(t, api.Type{Kind: api.TypeUnion, Names: []string{"x1", s}, List: []api.Type{anyType, anyType}})
	}
}

// P14.3: numbers are printed as num.Print says.
func TestNumbers(t *testing.T) {
	for _, x := range []struct{ s, printed string }{
		{"0", "0"}, {"-0", "0"}, {"0e999", "0"}, {"1", "1"}, {"-1", "-1"}, {"1.0", "1"}, {"100", "100"}, {"1e2", "100"}, {"0.5", "0.5"}, {"5E-1", "0.5"}, {"-1.50", "-1.5"},
		{"1e20", "100000000000000000000"}, {"1e21", "1e21"}, {"1e400", "1e400"}, {"1e-400", "1e-400"}, {"1E+30", "1e30"}, {strings.Repeat("9", 40), "9." + strings.Repeat("9", 39) + "e39"},
	} {
		m, e, at := lang.Parse("const " + x.s)
		if s, f := lang.Print(m); e != api.OK || at != 0 || f != api.OK || s != "const "+x.printed {
			t.Errorf("P14.3: const %s is printed as %s: %d, %d, %d", x.s, s, e, at, f)
		}
	}
	for _, s := range []string{"1e401", "1e-401", strings.Repeat("9", 41), "-1e999999999999", "0." + strings.Repeat("9", 41), "1" + strings.Repeat("0", 401)} {
		for _, around := range []string{"const %", "id;const %", "{a=const 1,b=[const %]}", "case{a=const %}", "(const %)", "const %;const %", "const%#a"} {
			if strings.Contains(around, "t%") && s[0] != '-' {
				continue // it would be a name
			}
			wantNoMapping(t, strings.ReplaceAll(around, "%", s), api.ErrLimit, 0)
		}
	}
}

// P14.5: what is no type is not printed.
func TestNoTypes(t *testing.T) {
	for _, x := range []api.Type{{}, plainType(-1), plainType(12), plainType(math.MaxInt), plainType(math.MinInt), {Kind: api.TypeList}, {Kind: api.TypeAny, Names: []string{"a"}}, {Kind: api.TypeInt, List: []api.Type{intType}}, recordType("a a", intType, intType), recordType("a"), unionType("\xff", intType), listType(api.Type{})} {
		wantTypeUnprinted(t, x, api.ErrTypeForm)
		wantTypeUnprinted(t, recordType("a b", intType, x), api.ErrTypeForm)
	}
	wantTypeUnprinted(t, recordType(strings.Repeat("a", 65), intType), api.ErrLimit)
}

// wideType is a record, or a union, of n names.
func wideType(k api.TypeKind, n int) api.Type {
	t := api.Type{Kind: k}
	for i := range n {
		t.Names = append(t.Names, "n"+strconv.Itoa(i))
		t.List = append(t.List, intType)
	}
	return t
}

// P14.3, P14.5: what is within the limits may be too long to be printed.
func TestTooLong(t *testing.T) {
	a := func(n int) string { return strings.Repeat("a", n) }
	for i, x := range []struct{ just, over api.Expr }{
		{constant(text(a(4088))), constant(text(a(4089)))}, // 4096 bytes
		{constant(text(a(4086) + `"`)), constant(text(a(4087) + `"`))},
		{constant(text(a(4082) + "\x01")), constant(text(a(4083) + "\x01"))},
		{pipe(append(times(341, get("a")), id)...), pipe(append(times(340, get("a")), id, id, id)...)}, // 1024 tokens
		{pipe(append(times(339, tag("a")), pipe(id, id), id)...), pipe(append(times(338, tag("a")), pipe(id, id), id, get("b"), id)...)},
		{wide(api.OpRecord, 255), wide(api.OpRecord, 256)},
		{wide(api.OpCase, 255), wide(api.OpCase, 256)},
	} {
		if s, e := askExpr(t, x.just); e != api.OK || s == "" {
			t.Errorf("P14.3: mapping %d is not printed: %d", i, e)
		}
		if e := lang.Check(x.over); e != api.OK {
			t.Errorf("P14.1: mapping %d is refused: %d", i, e)
		}
		wantUnprinted(t, x.over, api.ErrLimit)
	}
	for _, n := range []int{254, 255, 256} {
		for _, k := range []api.TypeKind{api.TypeRecord, api.TypeUnion} {
			x := wideType(k, n)
			if types.Check(x) != api.OK {
				t.Fatalf("a type of %d names is refused", n)
			}
			if _, e := askType(t, x); (e == api.OK) != (n < 256) {
				t.Errorf("P14.5: a type of %d names: %d", n, e)
			}
		}
	}
}
