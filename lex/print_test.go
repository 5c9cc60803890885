package lex_test

import (
	"math"
	"testing"

	"calamus/api"
)

// P13.2: which texts are tokens of which Word; of any other one the same text is none.
func TestPrintWords(t *testing.T) {
	for _, c := range []struct {
		s    string
		word api.Word // beside WordText; 0, if it is none
	}{
		{"a", api.WordName}, {"_", api.WordName}, {"Z9", api.WordName}, {"null", api.WordName}, {"e", api.WordName}, {"e1", api.WordName},
		{"0", api.WordNum}, {"-0", api.WordNum}, {"1.50", api.WordNum}, {"1E+05", api.WordNum}, {"1e999", api.WordNum},
		{".", api.WordMark}, {";", api.WordMark}, {",", api.WordMark}, {":", api.WordMark}, {"=", api.WordMark}, {"(", api.WordMark}, {")", api.WordMark}, {"[", api.WordMark}, {"]", api.WordMark}, {"{", api.WordMark}, {"}", api.WordMark},
		{"", 0}, {" ", 0}, {"\n", 0}, {"#", 0}, {"#a", 0}, {"a ", 0}, {" a", 0}, {"a b", 0}, {"a#", 0}, {"a\n", 0}, {"a.", 0}, {"a-1", 0}, {"1a", 0}, {"9_", 0}, {"a\u00e9", 0}, {"\u00e9", 0}, {"$", 0},
		{"01", 0}, {"-", 0}, {"1.", 0}, {".5", 0}, {"+1", 0}, {"1 ", 0}, {" 1", 0}, {"1e", 0}, {"1-2", 0}, {"1,2", 0}, {"1#", 0}, {"0x1", 0},
		{"..", 0}, {"()", 0}, {". ", 0}, {" .", 0}, {"[]", 0}, {"-.", 0}, {"+", 0}, {"/", 0}, {"<", 0}, {"\\", 0},
		{`"`, 0}, {`""`, 0}, {`"a"`, 0}, {"\x00", 0}, {"\x7f", 0},
	} {
		for w := api.Word(-2); w <= 7; w++ {
			token := api.Token{Word: w, Text: c.s}
			switch {
			case w == api.WordText:
				wantText(t, reckonText(token), token)
			case w == c.word && w != 0:
				wantText(t, c.s, token)
				wantText(t, c.s+" "+c.s, token, token)
			default:
				wantUnprinted(t, api.ErrArg, token)
				wantUnprinted(t, api.ErrArg, markToken("."), token)
				wantUnprinted(t, api.ErrArg, token, textToken(""))
			}
		}
		for _, w := range []api.Word{math.MinInt, math.MinInt32, 256 + api.WordName, 1<<32 + api.WordName, math.MaxInt} {
			wantUnprinted(t, api.ErrArg, api.Token{Word: w, Text: c.s})
		}
	}
	wantUnprinted(t, api.ErrArg, api.Token{})
}

// P13.2: characters of a text, each as it must be written.
func TestPrintTexts(t *testing.T) {
	for s, want := range map[string]string{
		"":                       `""`,
		"a b":                    `"a b"`,
		`"`:                      `"\""`,
		`\`:                      `"\\"`,
		`\"\`:                    `"\\\"\\"`,
		"\x00\x01\t\n\r\x1a\x1f": `"\u0000\u0001\u0009\u000a\u000d\u001a\u001f"`,
		" \x7f\u0080/'#$":        "\" \x7f\u0080/'#$\"",
		"\u00e9\u20ac\U0001f600": "\"\xc3\xa9\xe2\x82\xac\xf0\x9f\x98\x80\"",
		"\ufffd\ufeff\U0010ffff": "\"\ufffd\ufeff\U0010ffff\"",
		`\u0041`:                 `"\\u0041"`,
		`""`:                     `"\"\""`,
		"a\"\n\\b\u00e9\"\x1f":   "\"a\\\"\\u000a\\\\b\u00e9\\\"\\u001f\"",
	} {
		wantText(t, want, textToken(s))
		wantText(t, want+" "+want+" "+want, textToken(s), textToken(s), textToken(s))
		wantText(t, "a "+want+" . "+want+" 1", nameToken("a"), textToken(s), markToken("."), textToken(s), numberToken("1"))
	}
	for _, s := range []string{"\xff", "\x80", "\xc3", "a\xc3", "\xc3a", "\xe2\x82", "\xc0\x80", "\xe0\x9f\xbf", "\xed\xa0\x80", "\xed\xbf\xbf", "\xf0\x8f\xbf\xbf", "\xf4\x90\x80\x80", "\u00e9\x80", "\u20ac\xff\u20ac"} {
		wantUnprinted(t, api.ErrArg, textToken(s))
		wantUnprinted(t, api.ErrArg, textToken(""), textToken(s))
	}
}

// P13.2: where a token stood does not matter.
func TestPrintPlaces(t *testing.T) {
	for _, place := range []int{0, 1, -1, 4096, 4097, math.MaxInt, math.MinInt} {
		wantText(t, `a . 1 "b"`, at(place, nameToken("a")), at(place, markToken(".")), at(-place, numberToken("1")), at(place/2, textToken("b")))
		wantUnprinted(t, api.ErrArg, at(place, nameToken("1")))
	}
}
