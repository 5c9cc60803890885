package lang_test

import (
	"math/rand"
	"strings"
	"testing"

	"calamus/api"
	"calamus/lang"
	"calamus/types"
)

// printedIsParsed asks that what is printed of m, if anything is, is parsed as m, and printed as the same again.
func printedIsParsed(t *testing.T, m api.Expr) {
	t.Helper()
	s, e := lang.Print(m)
	if e != api.OK {
		return
	}
	back, e, at := lang.Parse(s)
	if e != api.OK || at != 0 || !sameExpr(back, m) {
		t.Errorf("P14.6: %s is parsed as %v, %d, %d", short(s), back, e, at)
	}
	if again, e := lang.Print(back); again != s || e != api.OK {
		t.Errorf("P14.6: %s is printed again as %s, %d", short(s), short(again), e)
	}
	if len(s) > 4000 || len(strings.Fields(s)) > 1000 {
		return
	}
	for _, around := range []string{"(" + s + ")", "((" + s + "\n) )", "( ( (" + s + ") ) )"} {
		if back, e, at := lang.Parse(around); e != api.OK || at != 0 || !sameExpr(back, m) {
			t.Errorf("P14.6: %s is parsed as %v, %d, %d", short(around), back, e, at)
		}
	}
}

// printedTypeIsParsed asks the same of a type.
func printedTypeIsParsed(t *testing.T, x api.Type) {
	t.Helper()
	s, e := lang.PrintType(x)
	if e != api.OK {
		return
	}
	back, e, at := lang.ParseType(s)
	if e != api.OK || at != 0 || !sameType(back, x) {
		t.Errorf("P14.6: %s is parsed as %v, %d, %d", short(s), back, e, at)
	}
	if again, e := lang.PrintType(back); again != s || e != api.OK {
		t.Errorf("P14.6: %s is printed again as %s, %d", short(s), short(again), e)
	}
}

// P14.6: what is printed is parsed as itself, also with brackets round it.
func TestPrintedIsParsed(t *testing.T) {
	for _, m := range someExprs() {
		printedIsParsed(t, m)
		for _, place := range places() {
			printedIsParsed(t, place(m))
		}
	}
	r := rand.New(rand.NewSource(146))
	for range 10000 {
		printedIsParsed(t, someExpr(r, 1+r.Intn(6)))
		printedTypeIsParsed(t, someTypeStruct(r, 1+r.Intn(6)))
	}
	for _, m := range []api.Expr{wide(api.OpRecord, 255), wide(api.OpCase, 255), pipe(times(511, id)...), under(15, id), constant(text(strings.Repeat("\x01", 681))), get(strings.Repeat("\u00e9", 32))} {
		if _, e := lang.Print(m); e != api.OK {
			t.Errorf("P14.3: it is not printed: %d", e)
		}
		printedIsParsed(t, m)
	}
	printedTypeIsParsed(t, wideType(api.TypeRecord, 255))
	printedTypeIsParsed(t, wideType(api.TypeUnion, 255))
}

// P14.6: what is parsed, and printed, is parsed as the same; what is parsed is a mapping, or a type.
func TestParsedIsPrinted(t *testing.T) {
	r := rand.New(rand.NewSource(147))
	for range 5000 {
		s := laidOut(r, someMapping(r, r.Intn(5)))
		m, e, _ := lang.Parse(s)
		if e != api.OK {
			continue // a number in it is none
		}
		if f := lang.Check(m); f != api.OK {
			t.Errorf("P14.2: what is parsed of %s is refused: %d", short(s), f)
		}
		printedIsParsed(t, m)
		if back, e, at := lang.Parse("(" + s + ")"); e != api.OK || at != 0 || !sameExpr(back, m) {
			t.Errorf("P14.6: (%s) is parsed as %v, %d, %d", short(s), back, e, at)
		}
		s = laidOut(r, someType(r, r.Intn(5)))
		x, e, at := lang.ParseType(s)
		if f := types.Check(x); e != api.OK || at != 0 || f != api.OK {
			t.Errorf("P14.4: what is parsed of %s is refused: %d, %d, %d", short(s), e, at, f)
		}
		printedTypeIsParsed(t, x)
	}
}

// P14.6: a text that is wrong stays so with brackets round it, unless it needs more of them.
func TestBracketsRound(t *testing.T) {
	r := rand.New(rand.NewSource(148))
	for range 3000 {
		s := strings.Join(changedRow(r, someMapping(r, 3)), " ")
		m, e, at := lang.Parse(s)
		back, f, place := lang.Parse("(" + s + ")")
		switch {
		case e == api.ErrLangForm && (at == len(s) || s[at] == ')'):
			continue
		case e == api.ErrLangForm:
			at++
		}
		if e != f || at != place || !sameExpr(m, back) {
			t.Errorf("P14.6: %s: %d at %d, and in brackets %d at %d", short(s), e, at, f, place)
		}
	}
}

// T7: any bytes are taken, or refused with an error of a fixed kind, whose place is within them.
func TestAnyBytes(t *testing.T) {
	r := rand.New(rand.NewSource(149))
	for range 20000 {
		b := make([]byte, r.Intn(40))
		r.Read(b)
		for i := range b {
			if r.Intn(8) > 0 {
				b[i] = "\"\\u0041#\n .a-e1;,:=()[]{}id"[r.Intn(27)]
			}
		}
		s := string(b)
		e, f := ask(t, s)
		for _, e := range []api.Errno{e, f} {
			if e != api.OK && e != api.ErrLexForm && e != api.ErrLangForm && e != api.ErrLimit {
				t.Errorf("T7: %q: %d", s, e)
			}
		}
		if _, _, at := lang.Parse(s); at < 0 || at > len(s) {
			t.Errorf("T7: %q: at %d", s, at)
		}
		if _, _, at := lang.ParseType(s); at < 0 || at > len(s) {
			t.Errorf("T7: %q: at %d", s, at)
		}
	}
}

// P14.1 to P14.6 of whatever bytes there are.
func FuzzParse(f *testing.F) {
	for _, s := range []string{".a; [tonum]; sum", `{x = .a, "y z" = const "q"}`, "(id; id); id", "", "id;", ".a b", "{a=id,a=id}", "$", "record{id:int,tags:list(text)}", "list", "int int", "case{a=tag x,b=const -1.5e3}", "union{a:record{},\"\":any}", "const 1e999", strings.Repeat("[", 17) + "id" + strings.Repeat("]", 17), strings.Repeat("id;", 511) + "id"} {
		f.Add(s)
	}
	f.Fuzz(func(t *testing.T, s string) {
		e, f := ask(t, s)
		if e == api.OK {
			m, _, _ := lang.Parse(s)
			askExpr(t, m)
			printedIsParsed(t, m)
		}
		if f == api.OK {
			x, _, _ := lang.ParseType(s)
			askType(t, x)
			printedTypeIsParsed(t, x)
		}
		for _, m := range []api.Expr{get(s), tag(s), constant(text(s)), {Op: api.OpRecord, Names: []string{"a", s}, List: []api.Expr{id, id}}} {
			askExpr(t, m)
			printedIsParsed(t, m)
		}
		askType(t, api.Type{Kind: api.TypeUnion, Names: []string{s, "a"}, List: []api.Type{intType, anyType}})
	})
}
