package lex_test

import (
	"strings"
	"testing"

	"calamus/api"
)

// tooLong are tokens that are just as long as they may be, and longer ones, as they are written.
func tooLong() []struct{ just, over string } {
	times := strings.Repeat
	return []struct{ just, over string }{
		{times("a", 64), times("a", 65)}, {times("_", 64), times("_", 65)}, {"Z" + times("9", 63), "Z" + times("9", 64)}, {times("a", 64), times("a", 2000)},
		{times("1", 512), times("1", 513)}, {"-" + times("1", 511), "-" + times("1", 512)}, {"0." + times("0", 510), "0." + times("0", 511)}, {"1E+" + times("0", 509), "1E+" + times("0", 510)}, {times("1", 512), times("1", 2000)},
	}
}

// P13.1: each limit of a token, just met and just passed, and what else is wrong ahead of it or behind.
func TestTooLong(t *testing.T) {
	for _, c := range tooLong() {
		l, e := ask(t, c.just)
		if e != api.OK || len(l) != 1 || l[0].Text != c.just {
			t.Errorf("P13.1: %s is refused: %d", short(c.just), e)
		}
		wantRefused(t, c.over, api.ErrLimit, 0)
		wantRefused(t, " "+c.over+" ", api.ErrLimit, 1)
		wantRefused(t, `{"x"=`+c.over, api.ErrLimit, 5)
		wantRefused(t, c.over+" $", api.ErrLimit, 0)
		wantRefused(t, c.over+` "`, api.ErrLimit, 0)
		wantRefused(t, c.over+" "+c.over, api.ErrLimit, 0)
		wantRefused(t, c.just+" "+c.over, api.ErrLimit, len(c.just)+1)
		wantRefused(t, "$ "+c.over, api.ErrLexForm, 0)
		wantRefused(t, "a 01 "+c.over, api.ErrLexForm, 2)
		wantTokens(t, "#"+c.over)
		wantTokens(t, `"`+c.over+`"`, textToken(c.over))
	}
}

// P13.1: a token that is too long, and none at all, is none at all.
func TestTooLongAndWrong(t *testing.T) {
	times := strings.Repeat
	for _, s := range []string{times("1", 513) + ".", times("1", 513) + "e", "0" + times("1", 513), "-" + times("-", 513), "1" + times(".1", 300), times("1", 513) + "e+", "1e" + times("-", 600), `"` + times("a", 4000), `"` + times(`\u0041`, 600)} {
		wantRefused(t, s, api.ErrLexForm, 0)
		wantRefused(t, "a "+s, api.ErrLexForm, 2)
	}
}

// P13.1: a text of 4096 bytes is scanned, a longer one is not even looked at.
func TestLongTexts(t *testing.T) {
	times := strings.Repeat
	wantTokens(t, `"`+times("a", 4094)+`"`, textToken(times("a", 4094)))
	wantTokens(t, `"`+times(`\u20ac`, 682)+`xy"`, textToken(times("\u20ac", 682)+"xy"))
	wantTokens(t, `"`+times("\u20ac", 1364)+`xy"`, textToken(times("\u20ac", 1364)+"xy"))
	wantTokens(t, times(" ", 4095)+".", at(4095, markToken(".")))
	wantTokens(t, "."+times(" ", 4095), markToken("."))
	wantTokens(t, "a#"+times("$", 4094), nameToken("a"))
	wantRefused(t, times(" ", 4095)+"$", api.ErrLexForm, 4095)
	wantRefused(t, times(" ", 4095)+`"`, api.ErrLexForm, 4095)
	for _, s := range []string{"a", "$", `"`, "01", "#", "\n", strings.Repeat("a", 65), "\xff"} {
		for n := 4090; n < 4103; n++ {
			for _, text := range []string{s + times(" ", n-len(s)), times(" ", n-len(s)) + s} {
				if _, e := ask(t, text); n > 4096 && e != api.ErrLimit {
					t.Errorf("P13.1: %d bytes: %d", n, e)
				}
			}
		}
		wantRefused(t, s+times(" ", 5000), api.ErrLimit, 0)
	}
	for _, s := range []string{"a", " ", "$", `"`, `""`, "#", ".", "-", "1", "\\", "\xff", "a ", "\u20ac"} {
		wantRefused(t, times(s, 1<<22), api.ErrLimit, 0)
	}
}

// P13.1: 1024 tokens, of each Word, and one more, which may also be wrong.
func TestManyTokens(t *testing.T) {
	for _, one := range []string{".", ". ", "a.", "a ", "1 ", "-1,", `""`, `"a"`, `"" `, ";#\n"} {
		l, e := ask(t, one)
		if e != api.OK {
			t.Fatalf("P13.1: Scan(%q) = %d", one, e)
		}
		all := strings.Repeat(one, 1024/len(l))
		if many, e := ask(t, all); e != api.OK || len(many) != 1024 {
			t.Errorf("P13.1: %d times %q: %d tokens, %d", 1024/len(l), one, len(many), e)
		}
		ask(t, all+" \t# a $ \"\n ")
		n := len(all)
		wantRefused(t, all+" a", api.ErrLimit, n+1)
		wantRefused(t, all+"\n# x\n.", api.ErrLimit, n+5)
		wantRefused(t, all+` "x"`, api.ErrLimit, n+1)
		wantRefused(t, all+" -1", api.ErrLimit, n+1)
		wantRefused(t, all+" a $", api.ErrLimit, n+1)
		wantRefused(t, all+" "+strings.Repeat("a", 65), api.ErrLimit, n+1)
		wantRefused(t, all+" $", api.ErrLexForm, n+1)
		wantRefused(t, all+` "`, api.ErrLexForm, n+1)
		wantRefused(t, all+" 01", api.ErrLexForm, n+1)
		wantRefused(t, "$"+all+"a", api.ErrLexForm, 0)
		wantRefused(t, strings.Repeat("a", 65)+" "+all, api.ErrLimit, 0)
	}
	wantRefused(t, strings.Repeat(".", 4096), api.ErrLimit, 1024)
	wantRefused(t, strings.Repeat(`""`, 2048), api.ErrLimit, 2048)
}

// P13.2: each limit of a token, just met and just passed.
func TestPrintTooLong(t *testing.T) {
	for _, c := range tooLong() {
		just, over := nameToken(c.just), nameToken(c.over)
		if strings.ContainsAny(c.just[:1], "-01") {
			just.Word, over.Word = api.WordNum, api.WordNum
		}
		wantText(t, c.just, just)
		wantText(t, c.just+" "+c.just, just, just)
		wantUnprinted(t, api.ErrLimit, over)
		wantUnprinted(t, api.ErrLimit, markToken("."), just, over, just)
		wantUnprinted(t, api.ErrArg, over, nameToken(""))
		wantUnprinted(t, api.ErrArg, over, api.Token{Word: over.Word, Text: over.Text + "$"})
		wantUnprinted(t, api.ErrArg, api.Token{Word: over.Word, Text: over.Text + " "})
		wantUnprinted(t, api.ErrArg, markToken(c.over))
	}
}

// P13.2: texts of tokens that just have 4096 bytes, and more.
func TestPrintLong(t *testing.T) {
	times := strings.Repeat
	for _, c := range []struct {
		s    string // a text's character
		size int    // how many bytes it is written with
	}{{"a", 1}, {"#", 1}, {"\x7f", 1}, {`"`, 2}, {`\`, 2}, {"\x00", 6}, {"\x1f", 6}, {"\n", 6}, {"\u00e9", 2}, {"\u20ac", 3}, {"\U0010ffff", 4}} {
		most := 4094 / c.size
		wantText(t, reckonText(textToken(times(c.s, most))), textToken(times(c.s, most)))
		wantUnprinted(t, api.ErrLimit, textToken(times(c.s, most+1)))
		wantUnprinted(t, api.ErrLimit, textToken(times(c.s, 4097)))
		wantUnprinted(t, api.ErrLimit, textToken(times(c.s, 1<<20)))
		wantUnprinted(t, api.ErrLimit, markToken("."), textToken(times(c.s, 4096/len(c.s))))
		wantUnprinted(t, api.ErrArg, textToken(times(c.s, 5000)+"\xff"))
		wantUnprinted(t, api.ErrArg, textToken(times(c.s, 5000)), textToken("\xc3"))
	}
	for n := 3900; n < 4100; n++ {
		for _, last := range []api.Token{markToken("."), nameToken("ab"), numberToken("-1.5"), textToken(""), textToken("\x01")} {
			askPrint(t, []api.Token{textToken(times("a", n)), last})
			askPrint(t, []api.Token{last, last, textToken(times("a", n))})
		}
	}
	name := nameToken(times("n", 63)) // 64 bytes with a blank behind
	all := []api.Token{}
	for range 64 {
		all = append(all, name)
	}
	wantText(t, times(name.Text+" ", 63)+name.Text, all...)
	wantText(t, times(name.Text+" ", 63)+name.Text+"n", append(all[:63:63], nameToken(times("n", 64)))...)
	wantUnprinted(t, api.ErrLimit, append(all, markToken("."))...)
}

// P13.2: 1024 tokens, of each Word, and more.
func TestPrintMany(t *testing.T) {
	for _, one := range []api.Token{markToken("."), nameToken("abc"), numberToken("-10"), textToken("a"), textToken("")} {
		var all []api.Token
		for range 1024 {
			all = append(all, one)
		}
		s := reckonText(one)
		wantText(t, strings.Repeat(s+" ", 1023)+s, all...)
		wantUnprinted(t, api.ErrLimit, append(all, one)...)
		wantUnprinted(t, api.ErrLimit, append(all, one, one)...)
		wantUnprinted(t, api.ErrArg, append(all, nameToken("$"))...)
		wantUnprinted(t, api.ErrArg, append(all, one, one, api.Token{})...)
		wantUnprinted(t, api.ErrArg, append([]api.Token{{}}, all...)...)
	}
	great := make([]api.Token, 1<<18)
	for i := range great {
		great[i] = markToken(";")
	}
	wantUnprinted(t, api.ErrLimit, great...)
	great[len(great)-1].Word = 0
	wantUnprinted(t, api.ErrArg, great...)
}

// P13.2, R1: tokens that are very long are refused by what they are.
func TestPrintGreat(t *testing.T) {
	const n = 1 << 22
	great := func(s string) string { return strings.Repeat(s, n/len(s)) }
	for _, c := range []struct {
		token api.Token
		want  api.Errno
	}{
		{nameToken(great("a")), api.ErrLimit}, {nameToken(great("a") + "-"), api.ErrArg}, {nameToken(great("1")), api.ErrArg}, {nameToken(great(`"`)), api.ErrArg},
		{numberToken(great("1")), api.ErrLimit}, {numberToken("1e" + great("0")), api.ErrLimit}, {numberToken(great("1") + "."), api.ErrArg}, {numberToken(great("-")), api.ErrArg}, {numberToken(great(".")), api.ErrArg}, {numberToken(great("a")), api.ErrArg},
		{textToken(great("\x00")), api.ErrLimit}, {textToken(great(`"`)), api.ErrLimit}, {textToken(great("\u20ac") + "\xe2"), api.ErrArg},
		{markToken(great(".")), api.ErrArg}, {markToken(great("a")), api.ErrArg}, {api.Token{Word: 5, Text: great("a")}, api.ErrArg}, {api.Token{Text: great(" ")}, api.ErrArg}, {api.Token{Text: great("#")}, api.ErrArg},
	} {
		wantUnprinted(t, c.want, c.token)
		wantUnprinted(t, c.want, markToken("."), c.token, textToken(""))
	}
}
