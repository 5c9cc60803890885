package lex_test

import (
	"fmt"
	"strconv"
	"strings"
	"testing"

	"calamus/api"
	"calamus/num"
)

// P13.1: names go as far as they can; what ends them is no part of them.
func TestNames(t *testing.T) {
	for _, s := range []string{"a", "z", "A", "Z", "_", "__", "a0", "_9", "e1", "E", "u0041", "null", "aZ_09", strings.Repeat("a", 64), "_" + strings.Repeat("9", 63)} {
		n := len(s)
		wantTokens(t, s, nameToken(s))
		wantTokens(t, " "+s+"\n", at(1, nameToken(s)))
		wantTokens(t, s+"#"+s, nameToken(s))
		wantTokens(t, s+" "+s, nameToken(s), at(n+1, nameToken(s)))
		wantTokens(t, s+"."+s, nameToken(s), at(n, markToken(".")), at(n+1, nameToken(s)))
		wantTokens(t, s+"-1", nameToken(s), at(n, numberToken("-1")))
		wantTokens(t, "1 "+s, numberToken("1"), at(2, nameToken(s)))
		wantTokens(t, s+`""`, nameToken(s), at(n, textToken("")))
		for _, c := range []string{"$", "+", "-", "@", "`", "\u00e9", "\xff", "\x00", `\`, "'", "/", "*", "<", "!", "\x7f", "\u00a0", "\v", "\f"} {
			wantRefused(t, s+c, api.ErrLexForm, n)
			wantRefused(t, s+" "+c+s, api.ErrLexForm, n+1)
		}
	}
}

// P13.1: each mark is one token, however they stand together.
func TestMarks(t *testing.T) {
	const marks = ".;,:=()[]{}"
	var all []api.Token
	for i, c := range marks {
		all = append(all, at(i, markToken(string(c))))
	}
	wantTokens(t, marks, all...)
	for c := range 128 {
		s := string(rune(c))
		switch {
		case strings.Contains(marks, s):
			wantTokens(t, s+s, markToken(s), at(1, markToken(s)))
			wantText(t, s, markToken(s))
		default:
			wantUnprinted(t, api.ErrArg, markToken(s))
		}
	}
	wantTokens(t, ".5", markToken("."), at(1, numberToken("5")))
	wantTokens(t, "..5", markToken("."), at(1, markToken(".")), at(2, numberToken("5")))
	wantRefused(t, "5.", api.ErrLexForm, 0)
	wantRefused(t, "5..", api.ErrLexForm, 0)
}

// P13.1: of all short rows of a number's bytes, just those that num.Parse takes are numbers.
func TestNumbers(t *testing.T) {
	for _, s := range rows([]string{"0", "1", "9", ".", "e", "E", "+", "-"}, 6) {
		if s == "" || strings.IndexByte("019-", s[0]) < 0 {
			continue
		}
		_, e := num.Parse(s)
		if e == api.ErrNumForm {
			wantRefused(t, s, api.ErrLexForm, 0)
			wantRefused(t, "a "+s+" a", api.ErrLexForm, 2)
			wantUnprinted(t, api.ErrArg, numberToken(s))
		} else {
			wantTokens(t, s, numberToken(s))
			wantTokens(t, "a "+s+"=", nameToken("a"), at(2, numberToken(s)), at(2+len(s), markToken("=")))
			wantText(t, s, numberToken(s))
		}
		if t.Failed() {
			return
		}
	}
}

// P13.1: a number's text is a token, of whatever size the number is; what stands behind it begins another.
func TestNumbersOfAnySize(t *testing.T) {
	for _, s := range []string{"1e400", "1e401", "-1e-99999999999999999999", strings.Repeat("9", 41), "0." + strings.Repeat("9", 41), strings.Repeat("9", 512), "-" + strings.Repeat("9", 511), "1e" + strings.Repeat("0", 510)} {
		n := len(s)
		wantTokens(t, s, numberToken(s))
		wantText(t, s, numberToken(s))
		wantTokens(t, s+"a", numberToken(s), at(n, nameToken("a")))
		wantTokens(t, s+"_1", numberToken(s), at(n, nameToken("_1")))
		wantTokens(t, s+`"e"`, numberToken(s), at(n, textToken("e")))
		wantTokens(t, s+"#5", numberToken(s))
		wantTokens(t, s+" 5", numberToken(s), at(n+1, numberToken("5")))
		wantTokens(t, s+",5", numberToken(s), at(n, markToken(",")), at(n+1, numberToken("5")))
		for _, c := range []string{"-", "+", ".", "e", "E", "-1", "+1", "e5.", "E1e", ".e", "1e-"} {
			wantRefused(t, " "+s+c, api.ErrLexForm, 1)
		}
	}
	wantRefused(t, "1else", api.ErrLexForm, 0)
	wantRefused(t, "- 1", api.ErrLexForm, 0)
	wantRefused(t, "+1", api.ErrLexForm, 0)
	wantRefused(t, "--1", api.ErrLexForm, 0)
	wantTokens(t, "0x1", numberToken("0"), at(1, nameToken("x1")))
}

// P13.1: each character stands for itself, but few.
func TestCharacters(t *testing.T) {
	for r := range rune(0x110000) {
		if r >= 0xd800 && r <= 0xdfff {
			continue
		}
		c := string(r)
		s := `"` + c + `"`
		switch {
		case r < 32 || r == '\\':
			wantRefused(t, s, api.ErrLexForm, 0)
		case r == '"':
			wantRefused(t, s, api.ErrLexForm, 2)
		default:
			wantTokens(t, s, textToken(c))
			wantText(t, s, textToken(c))
		}
	}
	if _, e := ask(t, "\"\xed\xa0\x80\""); e != api.ErrLexForm {
		t.Errorf("P13.1: d800 as bytes: %d", e)
	}
}

// P13.1: each number of four digits, of small letters and others.
func TestCharactersByNumber(t *testing.T) {
	for n := range 1 << 16 {
		for _, form := range []string{`\u%04x`, `\u%04X`} {
			s := fmt.Sprintf(form, n)
			if n >= 0xd800 && n <= 0xdfff {
				wantRefused(t, `"`+s+`"`, api.ErrLexForm, 0)
				wantRefused(t, ` "`+s+`\udc00"`, api.ErrLexForm, 1)
			} else {
				wantTokens(t, `"`+s+`"`, textToken(string(rune(n))))
				wantTokens(t, ` "a`+s+`b"`, at(1, textToken("a"+string(rune(n))+"b")))
			}
		}
	}
	wantTokens(t, `"\u00e9\u00E9\u0000\u0022\u005c\u005cu0041"`, textToken("\u00e9\u00e9\x00\"\\\\u0041"))
	wantTokens(t, `"\u00411"`, textToken("A1"))
	wantRefused(t, `"\ud83d\ude00"`, api.ErrLexForm, 0)
}

// P13.1: a `\` with each byte behind it.
func TestEscapes(t *testing.T) {
	for c := range 256 {
		s := string([]byte{byte(c)})
		if c == '"' || c == '\\' {
			wantTokens(t, `"\`+s+`"`, textToken(s))
			wantTokens(t, `;"a\`+s+`b"`, markToken(";"), at(1, textToken("a"+s+"b")))
		} else {
			wantRefused(t, `"\`+s+`"`, api.ErrLexForm, 0)
			wantRefused(t, `;"a\`+s+`b"`, api.ErrLexForm, 1)
		}
	}
	for _, s := range []string{`"\U0041"`, `"\u{41}"`, `"\x41"`, `"\101"`, `"\n"`, `"\/"`, `"\b"`, `"\'"`, `"\ "`, "\"\\\n\"", `"\`, `"\"`, `"\\\"`} {
		wantRefused(t, s, api.ErrLexForm, 0)
	}
}

// P13.1: behind `\u` each byte in the place of each digit, and fewer than four digits.
func TestDigits(t *testing.T) {
	for c := range 256 {
		for place := range 4 {
			digits := "00a9"[:place] + string([]byte{byte(c)}) + "00a9"[place+1:]
			if n, err := strconv.ParseUint(digits, 16, 16); err == nil && !strings.ContainsAny(digits, "+-_xX ") && (n < 0xd800 || n > 0xdfff) {
				wantTokens(t, `"\u`+digits+`"`, textToken(string(rune(n))))
			} else {
				wantRefused(t, `"\u`+digits+`"`, api.ErrLexForm, 0)
			}
		}
	}
	for n := range 4 {
		wantRefused(t, `"\u`+"0041"[:n]+`"`, api.ErrLexForm, 0)
		wantRefused(t, `"\u`+"0041"[:n], api.ErrLexForm, 0)
		wantRefused(t, `"\u`+"0041"[:n]+`" "a"`, api.ErrLexForm, 0)
	}
	for _, s := range []string{"+041", "-041", "0x41", "0X41", " 041", "041 ", "0_41", "00_1", "004g", "G041", "\u00e941", "\uff10041", "00\n1"} {
		wantRefused(t, `"\u`+s+`"`, api.ErrLexForm, 0)
	}
}

// P13.1: a text that does not end, or has bytes that are no text, is wrong from its first byte on.
func TestWrongTexts(t *testing.T) {
	for _, s := range []string{`"`, `"a`, `"a\"`, `"a\`, `"\u`, `"\u0041`, "\"a\n", "\"a\nb\"", "\"\t\"", "\"\r\n\"", "\"\x00\"", "\"a\x1f\"", "\"\xff\"", "\"\xc3\"", "\"\xc3", "\"\xc3\xa9", "\"\xe2\x82\"", "\"\xc0\x80\"", "\"\xc1\xbf\"", "\"\xe0\x80\x80\"", "\"\xed\xa0\x80\"", "\"\xf4\x90\x80\x80\"", "\"\xf8\x88\x80\x80\x80\"", "\"\x80\"", "\"\u00e9\x80\"", "\"a\xe2\x82a\"", `"#`, "\"#\n\"", "\"\u20ac\xff\u20ac\""} {
		wantRefused(t, s, api.ErrLexForm, 0)
		wantRefused(t, "a"+s, api.ErrLexForm, 1)
		wantRefused(t, `"b" `+s, api.ErrLexForm, 4)
		wantRefused(t, "# x\n1."+"5 "+s, api.ErrLexForm, 8)
		wantUnprinted(t, api.ErrArg, nameToken(s))
	}
	wantRefused(t, `"a"b"`, api.ErrLexForm, 4)
	wantRefused(t, `'a'`, api.ErrLexForm, 0)
}

// P13.1: a remark goes from `#` to the end of its line, whatever stands in it; within a text there is none.
func TestRemarks(t *testing.T) {
	wantTokens(t, `"#a"b`, textToken("#a"), at(4, nameToken("b")))
	wantTokens(t, "\"#\"#\"\n1", textToken("#"), at(6, numberToken("1")))
	for _, s := range []string{"", "a", `"`, `""`, "#", "$", "\xff", "\x00", "\r", "\\", "01", "\u20ac", strings.Repeat("a", 65), strings.Repeat("9", 513)} {
		n := len(s)
		wantTokens(t, "#"+s)
		wantTokens(t, "#"+s+"\n")
		wantTokens(t, "a#"+s, nameToken("a"))
		wantTokens(t, "#"+s+"\na", at(n+2, nameToken("a")))
		wantTokens(t, "#"+s+"\n#"+s+"\n.", at(2*n+4, markToken(".")))
		wantTokens(t, "5#"+s+"\r\n-1", numberToken("5"), at(n+4, numberToken("-1")))
		wantRefused(t, "#"+s+"\n$", api.ErrLexForm, n+2)
		wantTokens(t, "#"+s+"\ra") // no end of a line
	}
}

// P13.1: of all bytes, four are blanks.
func TestBlanks(t *testing.T) {
	for c := range 256 {
		s := string([]byte{byte(c)})
		if strings.Contains(" \t\n\r", s) {
			wantTokens(t, s+"a"+s+s+"b"+s, at(1, nameToken("a")), at(4, nameToken("b")))
			wantTokens(t, "1"+s+"2", numberToken("1"), at(2, numberToken("2")))
		}
		ask(t, s)
		ask(t, "a"+s+"b")
		ask(t, s+"1")
		ask(t, "1"+s)
		ask(t, `"a"`+s+`"b"`)
	}
}
