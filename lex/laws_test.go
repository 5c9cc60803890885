package lex_test

import (
	"math/rand"
	"slices"
	"strings"
	"testing"

	"calamus/api"
	"calamus/lex"
)

// printedIsScanned asks that what is printed of l, if anything is, is scanned as l, and printed as the same again.
func printedIsScanned(t *testing.T, l []api.Token) {
	t.Helper()
	s, e := lex.Print(l)
	if e != api.OK {
		return
	}
	back, e, place := lex.Scan(s)
	if e != api.OK || place != 0 || !slices.Equal(placeless(back), placeless(l)) {
		t.Errorf("P13.3: %s, printed of %v, is scanned as %v, %d, %d", short(s), l, back, e, place)
	}
	if again, e := lex.Print(back); again != s || e != api.OK {
		t.Errorf("P13.3: %s is printed again as %s, %d", short(s), short(again), e)
	}
}

// P13.3: what is printed is scanned as the same tokens, but for their places.
func TestPrintedIsScanned(t *testing.T) {
	r := rand.New(rand.NewSource(133))
	for range 20000 {
		var l []api.Token
		for range r.Intn(12) {
			l = append(l, at(r.Intn(99), someToken(r)))
		}
		printedIsScanned(t, l)
	}
	for n := range 5 {
		many := slices.Repeat([]api.Token{[]api.Token{markToken("."), nameToken("abc"), numberToken("-10"), textToken("a"), textToken("")}[n]}, 1024)
		if s, e := lex.Print(many); e != api.OK {
			t.Errorf("P13.2: %s, %d", short(s), e)
		}
		printedIsScanned(t, many)
	}
}

// P13.3: each two tokens that stand beside each other, of all sorts.
func TestNeighbours(t *testing.T) {
	var all []api.Token
	for _, s := range append(pieces(), "", "e1", "-1", "1e5", "0.5", `"a"`, "[", ",", "# a", "a\n") {
		for w := api.WordName; w <= api.WordMark; w++ {
			if token := (api.Token{Word: w, Text: s}); reckonText(token) != "" {
				all = append(all, token)
			}
		}
	}
	for _, a := range all {
		for _, b := range all {
			wantText(t, reckonText(a)+" "+reckonText(b), a, b)
			printedIsScanned(t, []api.Token{a, b})
		}
	}
}

// P13.3: what is scanned, and printed, is scanned as the same; so is each token of it, alone, and what stands in its place.
func TestScannedIsPrinted(t *testing.T) {
	r := rand.New(rand.NewSource(134))
	for range 10000 {
		s := someText(r, 12)
		l, e, _ := lex.Scan(s)
		if e != api.OK { // two of them need a blank between
			continue
		}
		if _, e := lex.Print(l); e != api.OK {
			t.Errorf("P13.3: %s is scanned, but not printed: %d", short(s), e)
		}
		printedIsScanned(t, l)
		for i, token := range l {
			end := len(s)
			if i+1 < len(l) {
				end = l[i+1].At
			}
			wantTokens(t, s[token.At:end], at(0, token))
		}
	}
}

// P13.3: blanks behind a text change nothing, those ahead of it nothing but places.
func TestBlanksAround(t *testing.T) {
	r := rand.New(rand.NewSource(135))
	for range 10000 {
		s := someText(r, 6)
		if r.Intn(2) == 0 {
			s = changed(r, s)
		}
		l, e, place := lex.Scan(s)
		for _, blanks := range []string{" ", "\t", "\n", "\r", "#", "# a $ \xff", "#\n", "\n\n #\r\n ", strings.Repeat(" ", 4096-len(s))} {
			if l2, e2, place2 := lex.Scan(s + blanks); !slices.Equal(l, l2) || e != e2 || place != place2 {
				t.Errorf("P13.3: %s, with %s behind: %v, %d, %d", short(s), short(blanks), l2, e2, place2)
			}
		}
		for _, blanks := range []string{" ", "\t", "\n", "\r", "# a $ \xff\n", "\n\n #\r\n "} {
			l2, e2, place2 := lex.Scan(blanks + s)
			for i := range l2 {
				l2[i].At -= len(blanks)
			}
			if e != api.OK {
				place2 -= len(blanks)
			}
			if !slices.Equal(l, l2) || e != e2 || place != place2 {
				t.Errorf("P13.1: %s, with %s ahead: %v, %d, %d", short(s), short(blanks), l2, e2, place2)
			}
		}
	}
}

// T7: any bytes are taken, or refused with an error of a fixed kind, whose place is within them.
func TestAnyBytes(t *testing.T) {
	r := rand.New(rand.NewSource(136))
	for range 20000 {
		b := make([]byte, r.Intn(60))
		r.Read(b)
		for i := range b {
			if r.Intn(3) > 0 {
				b[i] = "\"\\u0041#\n .a-e1"[r.Intn(15)]
			}
		}
		ask(t, string(b))
		l, e, place := lex.Scan(string(b))
		if e != api.OK && e != api.ErrLexForm || place < 0 || place > len(b) {
			t.Errorf("T7: Scan(%q) = %v, %d, %d", b, l, e, place)
		}
	}
}

// P13.1 to P13.3 of whatever bytes there are.
func FuzzScan(f *testing.F) {
	for _, s := range []string{`.a ; tag "x\u0041"`, "-1.5e3 # x", "a-1", "a $", `"a`, "01", `a "\x"`, "\"\u20ac\\\\\\\"\" {x=[1e5,(id)]:}", strings.Repeat(".", 1025), strings.Repeat("a", 65), strings.Repeat("1", 513), strings.Repeat(" ", 4097)} {
		f.Add(s)
	}
	f.Fuzz(func(t *testing.T, s string) {
		if l, e := ask(t, s); e == api.OK {
			askPrint(t, l)
			printedIsScanned(t, l)
		}
		for w := api.WordName; w <= api.WordMark; w++ {
			askPrint(t, []api.Token{{Word: w, Text: s}})
		}
	})
}
