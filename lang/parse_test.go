package lang_test

import (
	"math/rand"
	"slices"
	"strings"
	"testing"

	"calamus/api"
	"calamus/lang"
	"calamus/lex"
)

// ownWords are all that mean something somewhere in the language: each of them is a name, too.
func ownWords() []string {
	return strings.Fields("id totext tonum sum count tag case const null true false any bool num int float text bytes list record union")
}

// grow asks of all rows of pieces that some text begins with, and of each such row with one more piece behind it, up to so many.
func grow(t *testing.T, r rules, pieces []string, row []string, most int) int {
	s := strings.Join(row, " ")
	ask(t, s)
	if len(row) == most || t.Failed() {
		return 1
	}
	l, e, _ := lex.Scan(s)
	if e != api.OK {
		t.Fatalf("%s is no row of tokens", s)
	}
	if good, _ := r.follow(l); good < len(l) {
		return 1
	}
	n := 1
	for _, p := range pieces {
		n += grow(t, r, pieces, append(slices.Clip(row), p), most)
	}
	return n
}

// P14.2: all short rows of tokens.
func TestShortMappings(t *testing.T) {
	pieces := []string{"id", "sum", ".", "a", `"a"`, `"id"`, "1", "{", "}", "=", ",", ":", ";", "(", ")", "[", "]", "tag", "case", "const", "null"}
	n := grow(t, mappingRules, pieces, nil, 6)
	n += grow(t, mappingRules, []string{"id", "a", "{", "}", "=", ",", ";", "(", ")"}, nil, 8)
	n += grow(t, mappingRules, []string{"a", "{", "}", "=", ",", "case", `"a"`}, nil, 11)
	if n < 50000 {
		t.Errorf("only %d texts were asked", n)
	}
}

// P14.4: the same of types.
func TestShortTypes(t *testing.T) {
	pieces := []string{"any", "int", "a", `"a"`, `"int"`, "1", "list", "record", "union", "{", "}", ":", "=", ",", ";", "(", ")", "[", "]"}
	n := grow(t, typeRules, pieces, nil, 8)
	n += grow(t, typeRules, []string{"any", `"any"`, "record", "{", "}", ":", ","}, nil, 12)
	n += grow(t, typeRules, []string{"int", "list", "(", ")"}, nil, 16)
	if n < 20000 {
		t.Errorf("only %d texts were asked", n)
	}
}

// P14.2, P14.4: where a name must stand each word is one; in quotes none is a word.
func TestWords(t *testing.T) {
	for _, s := range append(ownWords(), "a", "_", "A9", "Id", "ID", "idx") {
		wantMapping(t, "."+s, get(s), ". "+s)
		wantMapping(t, `."`+s+`"`, get(s), ". "+s)
		wantMapping(t, "tag "+s, tag(s), "tag "+s)
		wantMapping(t, "{"+s+"=id}", record(s, id), "{ "+s+" = id }")
		wantMapping(t, "case{x=id,"+s+"=id}", cases("x "+s, id, id), "case { x = id , "+s+" = id }")
		wantType(t, "record{"+s+":any}", recordType(s, anyType), "record { "+s+" : any }")
		wantType(t, `union{"`+s+`":any}`, unionType(s, anyType), "union { "+s+" : any }")
		wantNoMapping(t, "{"+s+"=id,"+s+"=id}", api.ErrLangForm, len(s)+5)
		wantNoMapping(t, `{"`+s+`"=id,`+s+"=id}", api.ErrLangForm, len(s)+7)
		wantNoType(t, "union{"+s+`:any,"`+s+`":any}`, api.ErrLangForm, len(s)+11)
		wantNoMapping(t, `"`+s+`"`, api.ErrLangForm, 0)
		wantNoMapping(t, `"`+s+`" a`, api.ErrLangForm, 0)
		wantNoMapping(t, `id;"`+s+`"`, api.ErrLangForm, 3)
		wantNoType(t, `"`+s+`"`, api.ErrLangForm, 0)
		wantNoType(t, `list("`+s+`")`, api.ErrLangForm, 5)
		wantMapping(t, `const "`+s+`"`, constant(text(s)), `const "`+s+`"`)
		for _, around := range []string{"%", "id;%", "%;id", "(%)", "const %", "% a", "% {}", "%(%)", "%:%", "list(%)", "record{a:%}", "[%]", "%{%:%}", "%{%=%}"} {
			ask(t, strings.ReplaceAll(around, "%", s))
		}
	}
	for _, s := range []string{"ID", "Id", "i", "idd", "Const 1", "CASE{}", "List(any)", "Any", "nul", "null", "number", "string"} {
		ask(t, s)
	}
}

// P14.2, P14.4: a word, or a mark, in quotes is none; nor is a number in quotes one.
func TestQuoted(t *testing.T) {
	r := rand.New(rand.NewSource(151))
	for n := range 3000 {
		row := someMapping(r, 3)
		if n%3 == 0 {
			row = someType(r, 3)
		}
		at := r.Intn(len(row))
		if row[at] != "" && row[at][0] != '"' {
			row[at] = `"` + row[at] + `"`
		}
		ask(t, laidOut(r, row))
	}
	wantNoMapping(t, `id ";" id`, api.ErrLangForm, 3)
	wantNoMapping(t, `(id ")"`, api.ErrLangForm, 4)
	wantNoMapping(t, `case "{" }`, api.ErrLangForm, 5)
	wantNoMapping(t, `{ "}"`, api.ErrLangForm, 5)
	wantNoMapping(t, `{a "=" id}`, api.ErrLangForm, 3)
	wantNoMapping(t, `{a = id "," b = id}`, api.ErrLangForm, 8)
	wantNoType(t, `list "(" int)`, api.ErrLangForm, 5)
	wantNoType(t, `record {a ":" int}`, api.ErrLangForm, 10)
}

// P14.2: a name that stands twice is wrong where it stands the second time, whatever is behind it; in another one it may stand.
func TestTwice(t *testing.T) {
	for _, s := range []string{"{a=id,b=id,a=id}", "{a=id,b=id,a", "{a=id,b=id,a $a", "{a=id,b=id,a a", "{a=id,b=id,a,", "{a=id,b=id,a 5"} {
		if s == "{a=id,b=id,a $a" {
			wantNoMapping(t, s, api.ErrLexForm, 13)
			continue
		}
		wantNoMapping(t, s, api.ErrLangForm, 11)
		wantNoMapping(t, "case"+s, api.ErrLangForm, 15)
		wantNoMapping(t, "id;["+s, api.ErrLangForm, 15)
	}
	wantMapping(t, "{a={a=id,b=id},b={a=id}}", record("a b", record("a b", id, id), record("a", id)), "{ a = { a = id , b = id } , b = { a = id } }")
	wantMapping(t, "case{a={a=case{a=id}}};case{a=id}", pipe(cases("a", record("a", cases("a", id))), cases("a", id)), "case { a = { a = case { a = id } } } ; case { a = id }")
	wantNoMapping(t, "{a={a=id},a=id}", api.ErrLangForm, 10)
	wantNoMapping(t, "{a={b=id,c=id,b=id},a=id}", api.ErrLangForm, 14)
	wantNoMapping(t, `{"\u0061"=id, a =id}`, api.ErrLangForm, 14)
	wantNoMapping(t, `{""=id,""=id}`, api.ErrLangForm, 7)
	wantNoMapping(t, "{a=id,a=id;)}", api.ErrLangForm, 6)
	wantNoMapping(t, "{a=id;),a=id}", api.ErrLangForm, 6)
	wantType(t, "record{a:record{a:int},b:union{a:int,b:int}}", recordType("a b", recordType("a", intType), unionType("a b", intType, intType)), "record { a : record { a : int } , b : union { a : int , b : int } }")
	wantNoType(t, "record{a:int,b:int,a:int}", api.ErrLangForm, 19)
	wantNoType(t, "union{a:record{a:int},a", api.ErrLangForm, 22)
	long := `"` + strings.Repeat("n", 65) + `"`
	wantNoMapping(t, "{"+long+"=id,"+long+"=id}", api.ErrLangForm, 72)
	wantNoType(t, "union{"+long+":any,"+long+":any}", api.ErrLangForm, 78)
}

// P14.2, P14.4: if the tokens end too early, the place is the text's length, with all blanks behind it.
func TestTooEarly(t *testing.T) {
	for _, s := range []string{"", "id;", ".", "{", "{a", "{a=", "{a=id", "{a=id,", "[", "[id", "[id;", "tag", "case", "case{", "case{a=id", "const", "(", "(id", "id;(", "((id)"} {
		for _, blanks := range []string{"", " ", "\n\t \r", "# a", "#;\n ", strings.Repeat(" ", 4096-len(s))} {
			wantNoMapping(t, s+blanks, api.ErrLangForm, len(s+blanks))
		}
	}
	for _, s := range []string{"", "list", "list(", "list(int", "record", "record{", "record{a", "record{a:", "record{a:int", "record{a:int,", "union", "union{a:union{}", "list(list(int)"} {
		for _, blanks := range []string{"", " ", "\n\t \r", "# a", "#;\n ", strings.Repeat(" ", 4096-len(s))} {
			wantNoType(t, s+blanks, api.ErrLangForm, len(s+blanks))
		}
	}
}

// P14.2: of several errors the one that is named first: lex's, then the first wrong token, then the limits.
func TestWhichError(t *testing.T) {
	wantNoMapping(t, "; $", api.ErrLexForm, 2)
	wantNoMapping(t, ") "+strings.Repeat("a", 65), api.ErrLimit, 2)
	wantNoMapping(t, strings.Repeat("a", 65)+" $", api.ErrLimit, 0)
	wantNoMapping(t, strings.Repeat(" ", 4097), api.ErrLimit, 0)
	wantNoMapping(t, strings.Repeat("; ", 1024)+" ;", api.ErrLimit, 2049)
	wantNoMapping(t, strings.Repeat("; ", 1024), api.ErrLangForm, 0)
	wantNoMapping(t, "const 1e401;", api.ErrLangForm, 12)
	wantNoMapping(t, "const 1e401 1", api.ErrLangForm, 12)
	wantNoMapping(t, strings.Repeat("[", 17)+"id"+strings.Repeat("]", 17)+"]", api.ErrLangForm, 36)
	wantNoMapping(t, strings.Repeat("id;", 511)+"id", api.ErrLimit, 0)
	wantNoMapping(t, strings.Repeat("id;", 511)+"a", api.ErrLangForm, 1533)
	wantNoMapping(t, strings.Repeat("id;", 512), api.ErrLangForm, 1536)
	wantNoType(t, ": $", api.ErrLexForm, 2)
	wantNoType(t, "list(int) "+strings.Repeat("1", 513), api.ErrLimit, 10)
	wantNoType(t, strings.Repeat("list(", 17)+"int"+strings.Repeat(")", 17)+")", api.ErrLangForm, 105)
	wantNoType(t, "int 1e999", api.ErrLangForm, 4)
	for _, s := range []string{"$", "id $", `id "`, "01", "const 01", `"\x"`, "\xff", "id;\x00"} {
		_, e, at := lex.Scan(s)
		wantNoMapping(t, s, e, at)
		wantNoType(t, s, e, at)
	}
}

// someMapping and someType make texts' rows of tokens, of up to depth deep.
func someMapping(r *rand.Rand, depth int) []string {
	k := 9
	if depth > 0 {
		k = 15
	}
	name := func() string { return []string{"a", "b", "id", `""`, `"a b"`, `"\u0041"`, "case"}[r.Intn(7)] }
	pairs := func() []string {
		out := []string{"{"}
		for i, n := range r.Perm(6)[:r.Intn(4)] {
			if i > 0 {
				out = append(out, ",")
			}
			out = append(out, []string{"a", "b", "id", `""`, `"a b"`, `"\u0041"`}[n], "=")
			out = append(out, someMapping(r, depth-1)...)
		}
		return append(out, "}")
	}
	around := func(open, shut string) []string {
		return append(append([]string{open}, someMapping(r, depth-1)...), shut)
	}
	switch r.Intn(k) {
	case 0:
		return []string{"id"}
	case 1:
		return []string{[]string{"sum", "count"}[r.Intn(2)]}
	case 2:
		return []string{[]string{"tonum", "totext"}[r.Intn(2)]}
	case 3, 4:
		return []string{".", name()}
	case 5:
		return []string{"tag", name()}
	case 6:
		return []string{"const", []string{"null", "true", "false", `""`, `"id"`}[r.Intn(5)]}
	case 7:
		return []string{"const", []string{"0", "-1", "1.50", "1e5", "1E-3", "1e400", "1e401", "-0"}[r.Intn(8)]}
	case 8:
		return []string{[]string{"", "case"}[r.Intn(2)], "{", "}"}
	case 9:
		return around("[", "]")
	case 10:
		return around("(", ")")
	case 11:
		return pairs()
	case 12:
		return append([]string{"case"}, pairs()...)
	}
	out := someMapping(r, depth-1)
	for range 1 + r.Intn(3) {
		out = append(append(out, ";"), someMapping(r, depth-1)...)
	}
	return out
}

func someType(r *rand.Rand, depth int) []string {
	if depth == 0 || r.Intn(3) == 0 {
		return []string{[]string{"any", "null", "bool", "num", "int", "float", "text", "bytes"}[r.Intn(8)]}
	}
	if r.Intn(3) == 0 {
		return append(append([]string{"list", "("}, someType(r, depth-1)...), ")")
	}
	out := []string{[]string{"record", "union"}[r.Intn(2)], "{"}
	for i, n := range r.Perm(6)[:r.Intn(4)] {
		if i > 0 {
			out = append(out, ",")
		}
		out = append(out, []string{"a", "b", "int", `""`, `"a b"`, `"\u0041"`}[n], ":")
		out = append(out, someType(r, depth-1)...)
	}
	return append(out, "}")
}

// changedRow is a row of tokens with one left out, put in, put in another's place, or all behind it cut off.
func changedRow(r *rand.Rand, row []string) []string {
	row = slices.Clone(row)
	pieces := []string{";", ",", "=", ":", "(", ")", "[", "]", "{", "}", ".", "id", "a", `"a"`, "1", "tag", "const", "case", "null", "int", "list", "record"}
	piece := pieces[r.Intn(len(pieces))]
	at := r.Intn(len(row) + 1)
	switch k := r.Intn(5); {
	case at == len(row) || k == 0:
		return slices.Insert(row, at, piece)
	case k == 1:
		row[at] = piece
	case k == 2:
		row[at] = row[r.Intn(len(row))]
	case k == 3:
		return slices.Delete(row, at, at+1)
	default:
		return row[:at]
	}
	return row
}

// laidOut is a row of tokens as a text, with blanks of all sorts where some may be.
func laidOut(r *rand.Rand, row []string) string {
	s := ""
	for _, w := range row {
		s += w + []string{" ", "\n", "\t\r ", "# id;\n", "  "}[r.Intn(5)]
	}
	return s
}

// P14.2, P14.4 of texts of all sorts, whole and changed in one place or more.
func TestSomeTexts(t *testing.T) {
	r := rand.New(rand.NewSource(142))
	got := map[api.Errno]int{}
	for n := range 6000 {
		row := someMapping(r, r.Intn(5))
		if n%3 == 0 {
			row = someType(r, r.Intn(5))
		}
		for range 4 {
			e, f := ask(t, laidOut(r, row))
			got[min(e, f)]++
			row = changedRow(r, row)
		}
	}
	if got[api.OK] < 6000 || got[api.ErrLimit] < 50 || got[api.ErrLangForm] < 6000 {
		t.Errorf("too few of one sort: %v", got)
	}
}

// P14.6: blanks behind a text change nothing but the place of its end; those ahead move places alone.
func TestBlanks(t *testing.T) {
	r := rand.New(rand.NewSource(143))
	for range 1000 {
		s := strings.Join(changedRow(r, someMapping(r, 3)), " ")
		m, e, at := lang.Parse(s)
		m2, e2, at2 := lang.Parse(s + " # a")
		if !sameExpr(m, m2) || e != e2 || at != at2 && (at != len(s) || at2 != len(s)+4) {
			t.Errorf("P14.2: Parse(%s), with a remark behind: %d at %d, %d at %d", short(s), e, at, e2, at2)
		}
		m2, e2, at2 = lang.Parse("# a\n" + s)
		if e == api.ErrLangForm || e == api.ErrLexForm {
			at += 4
		}
		if !sameExpr(m, m2) || e != e2 || at != at2 {
			t.Errorf("P14.2: Parse(%s), with a remark ahead: %d at %d, %d at %d", short(s), e, at, e2, at2)
		}
	}
}
