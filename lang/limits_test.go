package lang_test

import (
	"strings"
	"testing"

	"calamus/api"
)

// P14.2: each limit of a mapping that a text can pass, just met and just passed.
func TestParseLimits(t *testing.T) {
	rep := strings.Repeat
	long := func(n int) string { return `"` + rep("n", n) + `"` }
	deep := func(n int) string { return rep("[", n-1) + "id" + rep("]", n-1) }
	for i, x := range []struct{ just, over string }{
		{"." + long(64), "." + long(65)},
		{"tag" + long(64), "tag" + long(65)},
		{"{" + long(64) + "=id}", "{" + long(65) + "=id}"},
		{"case{a=id," + long(64) + "=id}", "case{a=id," + long(65) + "=id}"},
		{`tag "` + rep("\u00e9", 32) + `"`, `tag "` + rep("\u00e9", 32) + `a"`},
		{deep(16), deep(17)},
		{"id;" + deep(15), "id;" + deep(16)},
		{rep("(", 400) + deep(16) + rep(")", 400), rep("(", 400) + deep(17) + rep(")", 400)},
		{rep("{a=", 15) + "id" + rep("}", 15), rep("{a=", 16) + "id" + rep("}", 16)},
		{rep("case{a=", 15) + "id" + rep("}", 15), rep("case{a=", 16) + "id" + rep("}", 16)},
		{rep("case{a=", 14) + "id;id" + rep("}", 14), rep("case{a=", 15) + "id;id" + rep("}", 15)},
		{rep("(", 15) + "id;id" + rep(";id)", 15), rep("(", 16) + "id;id" + rep(";id)", 16)},
		{rep("(", 511) + "id" + rep(")", 511), ""},
		{rep("id;", 510) + "id", rep("id;", 511) + "id"},
		{"[" + rep("id;", 509) + "id]", "[" + rep("id;", 510) + "id]"},
		{"const " + `"` + rep("a", 4088) + `"`, ""},
	} {
		if e, _ := ask(t, x.just); e != api.OK {
			t.Errorf("P14.2: limit %d, just met: %d", i, e)
		}
		if x.over != "" {
			wantNoMapping(t, x.over, api.ErrLimit, 0)
			ask(t, x.over)
			wantNoMapping(t, x.over+")", api.ErrLangForm, len(x.over))
			wantNoMapping(t, x.over+"$", api.ErrLexForm, len(x.over))
		}
	}
}

// P14.4: the same of types.
func TestParseTypeLimits(t *testing.T) {
	rep := strings.Repeat
	long := func(n int) string { return `"` + rep("n", n) + `"` }
	for i, x := range []struct{ just, over string }{
		{"record{" + long(64) + ":int}", "record{" + long(65) + ":int}"},
		{"union{a:int," + long(64) + ":int}", "union{a:int," + long(65) + ":int}"},
		{rep("list(", 15) + "int" + rep(")", 15), rep("list(", 16) + "int" + rep(")", 16)},
		{rep("list(", 15) + "record{}" + rep(")", 15), rep("list(", 16) + "record{}" + rep(")", 16)},
		{rep("record{a:", 15) + "int" + rep("}", 15), rep("record{a:", 16) + "int" + rep("}", 16)},
		{rep("union{a:", 15) + "int" + rep("}", 15), rep("union{a:", 16) + "int" + rep("}", 16)},
	} {
		if _, e := ask(t, x.just); e != api.OK {
			t.Errorf("P14.4: limit %d, just met: %d", i, e)
		}
		wantNoType(t, x.over, api.ErrLimit, 0)
		ask(t, x.over)
		wantNoType(t, x.over+")", api.ErrLangForm, len(x.over))
		wantNoType(t, x.over+"$", api.ErrLexForm, len(x.over))
	}
}

// T7: texts that open as much as they can, and never close it, end.
func TestManyOpen(t *testing.T) {
	for _, s := range []string{"(", "[", "{a=", "case{a=", "id;(", "list(", "record{a:", "union{a:", "{", ")", "const ", "tag "} {
		for _, n := range []int{1, 2, 16, 17, 100, 204, 256, 341, 512, 1024} {
			ask(t, strings.Repeat(s, n))
			ask(t, strings.Repeat(s, n)+"id")
		}
	}
}
