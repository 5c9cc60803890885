package lex_test

import (
	"fmt"
	"slices"
	"strings"
	"testing"

	"calamus/api"
	"calamus/lex"
)

func nameToken(s string) api.Token   { return api.Token{Word: api.WordName, Text: s} }
func textToken(s string) api.Token   { return api.Token{Word: api.WordText, Text: s} }
func numberToken(s string) api.Token { return api.Token{Word: api.WordNum, Text: s} }
func markToken(s string) api.Token   { return api.Token{Word: api.WordMark, Text: s} }

// at is a token whose place is another.
func at(place int, t api.Token) api.Token {
	t.At = place
	return t
}

// placeless are tokens whose places are all 0.
func placeless(l []api.Token) []api.Token {
	var out []api.Token
	for _, t := range l {
		out = append(out, at(0, t))
	}
	return out
}

// short is s, or its two ends, so that a fault can be read.
func short(s string) string {
	if len(s) > 80 {
		return fmt.Sprintf("%q .. %q (%d bytes)", s[:40], s[len(s)-20:], len(s))
	}
	return fmt.Sprintf("%q", s)
}

// wantTokens asks Scan for the tokens of s.
func wantTokens(t *testing.T, s string, want ...api.Token) {
	t.Helper()
	if l, e, place := lex.Scan(s); !slices.Equal(l, want) || e != api.OK || place != 0 {
		t.Errorf("P13.1: Scan(%s) = %s, %d, %d, want %s", short(s), short(fmt.Sprint(l)), e, place, short(fmt.Sprint(want)))
	}
}

// wantRefused asks Scan for an error and its place.
func wantRefused(t *testing.T, s string, want api.Errno, wantPlace int) {
	t.Helper()
	if l, e, place := lex.Scan(s); len(l) != 0 || e != want || place != wantPlace {
		t.Errorf("P13.1: Scan(%s) = %s, %d, %d, want %d, %d", short(s), short(fmt.Sprint(l)), e, place, want, wantPlace)
	}
}

// wantText asks Print for the text of tokens.
func wantText(t *testing.T, want string, l ...api.Token) {
	t.Helper()
	if s, e := lex.Print(l); s != want || e != api.OK {
		t.Errorf("P13.2: Print(%s) = %s, %d, want %s", short(fmt.Sprint(l)), short(s), e, short(want))
	}
}

// wantUnprinted asks Print for an error.
func wantUnprinted(t *testing.T, want api.Errno, l ...api.Token) {
	t.Helper()
	if s, e := lex.Print(l); s != "" || e != want {
		t.Errorf("P13.2: Print(%s) = %s, %d, want %d", short(fmt.Sprint(l)), short(s), e, want)
	}
}

func TestExamples(t *testing.T) {
	first := []api.Token{markToken("."), at(1, nameToken("a")), at(3, markToken(";")), at(5, nameToken("tag")), at(9, textToken("xA"))}
	wantTokens(t, `.a ; tag "x\u0041"`, first...)
	wantTokens(t, "-1.5e3 # x", numberToken("-1.5e3"))
	wantTokens(t, "a-1", nameToken("a"), at(1, numberToken("-1")))
	wantRefused(t, "a $", api.ErrLexForm, 2)
	wantRefused(t, `"a`, api.ErrLexForm, 0)
	wantRefused(t, "01", api.ErrLexForm, 0)
	wantRefused(t, `a "\x"`, api.ErrLexForm, 2)
	wantText(t, `. a ; tag "xA"`, first...)
	wantUnprinted(t, api.ErrArg, nameToken("1"))
}

// The texts of the language's chapter, which come next: what is scanned of them, and printed, is what that chapter prints.
func TestMappings(t *testing.T) {
	for s, want := range map[string]string{
		".a; [tonum]; sum":                ". a ; [ tonum ] ; sum",
		`{x = .a, "y z" = const "q"}`:     `{ x = . a , "y z" = const "q" }`,
		"(id; id); id":                    "( id ; id ) ; id",
		"record{id:int,tags:list(text)}":  "record { id : int , tags : list ( text ) }",
		"case{a=tag x,b=tag x}# a remark": "case { a = tag x , b = tag x }",
		"const-1;const 1e400;const null":  "const -1 ; const 1e400 ; const null",
	} {
		l, e, place := lex.Scan(s)
		if e != api.OK || place != 0 {
			t.Errorf("P13.1: Scan(%s) = %d, %d", s, e, place)
		}
		wantText(t, want, l...)
	}
}

// P13.1, P13.2: of nothing there is nothing.
func TestNothing(t *testing.T) {
	for _, s := range []string{"", " ", "\t", "\n", "\r", "#", "##", "# x", " \t\n\r", "#\n", "# x\n#", "#\n\n#\"\n ", "# \"", "#$\xff\x00\n", strings.Repeat(" ", 4096), strings.Repeat("#", 4096), strings.Repeat("#\n", 2048)} {
		wantTokens(t, s)
	}
	wantText(t, "")
	wantText(t, "", []api.Token{}...)
}
