package lex_test

import (
	"fmt"
	"math/rand"
	"regexp"
	"slices"
	"strconv"
	"strings"
	"testing"
	"unicode/utf8"

	"calamus/api"
	"calamus/lex"
)

// The chapter's words as patterns, apart from the package.
var (
	blankForm  = regexp.MustCompile(`^(?:[ \t\n\r]|#[^\n]*)`)
	nameForm   = regexp.MustCompile(`^[A-Za-z_][A-Za-z_0-9]*`)
	numberRun  = regexp.MustCompile(`^[-0-9][-0-9.eE+]*`)
	numberForm = regexp.MustCompile(`^-?(?:0|[1-9][0-9]*)(?:\.[0-9]+)?(?:[eE][-+]?[0-9]+)?$`)
	textForm   = regexp.MustCompile(`^"(?:[^"\\\x00-\x1f]|\\["\\]|\\u[0-9a-fA-F]{4})*"`)
	markForm   = regexp.MustCompile(`^[.;,:=()\[\]{}]`)
	escapeForm = regexp.MustCompile(`\\(?:["\\]|u....)`)
	halfForm   = regexp.MustCompile(`^\\u[dD][89a-fA-F]`)
)

var mostBytes = map[api.Word]int{api.WordName: 64, api.WordText: 4096, api.WordNum: 512, api.WordMark: 1}

// reckonToken is the token that s begins with, and how many bytes it has there; none, if it is 0.
func reckonToken(s string) (api.Token, int) {
	if m := nameForm.FindString(s); m != "" {
		return nameToken(m), len(m)
	}
	if m := numberRun.FindString(s); numberForm.MatchString(m) {
		return numberToken(m), len(m)
	}
	if m := markForm.FindString(s); m != "" {
		return markToken(m), len(m)
	}
	m := textForm.FindString(s)
	if m == "" || !utf8.ValidString(m) {
		return api.Token{}, 0
	}
	whole := true
	said := escapeForm.ReplaceAllStringFunc(m[1:len(m)-1], func(c string) string {
		if c[1] != 'u' {
			return c[1:]
		}
		whole = whole && !halfForm.MatchString(c)
		n, _ := strconv.ParseInt(c[2:], 16, 32)
		return string(rune(n))
	})
	if !whole {
		return api.Token{}, 0
	}
	return textToken(said), len(m)
}

// reckonScan is what Scan must answer.
func reckonScan(text string) ([]api.Token, api.Errno, int) {
	if len(text) > 4096 {
		return nil, api.ErrLimit, 0
	}
	var l []api.Token
	for place := 0; place < len(text); {
		if m := blankForm.FindString(text[place:]); m != "" {
			place += len(m)
			continue
		}
		token, size := reckonToken(text[place:])
		if size == 0 {
			return nil, api.ErrLexForm, place
		}
		if l = append(l, at(place, token)); len(token.Text) > mostBytes[token.Word] || len(l) > 1024 {
			return nil, api.ErrLimit, place
		}
		place += size
	}
	return l, api.OK, 0
}

// reckonText is how a token is written; nothing, if it is none.
func reckonText(token api.Token) string {
	if token.Word == api.WordText && utf8.ValidString(token.Text) {
		var b strings.Builder
		for _, r := range token.Text {
			switch {
			case r == '"' || r == '\\':
				b.WriteString(`\` + string(r))
			case r < 32:
				fmt.Fprintf(&b, `\u%04x`, r)
			default:
				b.WriteRune(r)
			}
		}
		return `"` + b.String() + `"`
	}
	if got, size := reckonToken(token.Text); size == 0 || size < len(token.Text) || got.Word != token.Word || got.Word == api.WordText {
		return ""
	}
	return token.Text
}

// reckonPrint is what Print must answer.
func reckonPrint(l []api.Token) (string, api.Errno) {
	var texts []string
	limit := len(l) > 1024
	for _, token := range l {
		s := reckonText(token)
		if s == "" {
			return "", api.ErrArg
		}
		texts = append(texts, s)
		limit = limit || len(token.Text) > mostBytes[token.Word]
	}
	if s := strings.Join(texts, " "); !limit && len(s) <= 4096 {
		return s, api.OK
	}
	return "", api.ErrLimit
}

// ask holds Scan of s against what it must answer, and answers the tokens and the error.
func ask(t *testing.T, s string) ([]api.Token, api.Errno) {
	t.Helper()
	want, e, place := reckonScan(s)
	if e == api.OK {
		wantTokens(t, s, want...)
	} else {
		wantRefused(t, s, e, place)
	}
	return want, e
}

// askPrint holds Print of l against what it must answer.
func askPrint(t *testing.T, l []api.Token) {
	t.Helper()
	want, e := reckonPrint(l)
	if e == api.OK {
		wantText(t, want, l...)
	} else {
		wantUnprinted(t, e, l...)
	}
}

// pieces are those of which texts are laid, each at an edge of what may be.
func pieces() []string {
	return []string{"a", "Z", "_", "e", "u", "0", "1", "-", "+", ".", ";", "}", `"`, `\`, "0041", "d800", " ", "\n", "#", "$", "\x1f", "\u00e9", "\xe9", "\x7f"}
}

// rows are all rows of up to so many pieces.
func rows(l []string, most int) []string {
	out, from := []string{""}, 0
	for range most {
		to := len(out)
		for ; from < to; from++ {
			for _, p := range l {
				out = append(out, out[from]+p)
			}
		}
	}
	return out
}

// P13.1, P13.2 of all short rows of pieces, and of what is scanned of them.
func TestShortRows(t *testing.T) {
	for _, s := range rows(pieces(), 4) {
		if l, e := ask(t, s); e == api.OK {
			askPrint(t, l)
		}
		if t.Failed() {
			return
		}
	}
}

// P13.1 within a text: all short rows of pieces in quotes, and behind a `\`.
func TestShortRowsInQuotes(t *testing.T) {
	for _, s := range rows(pieces(), 3) {
		for _, around := range []string{`"%s"`, `"\%s"`, `"\u%s"`, `"\u004%s"`, `a "%s" b`} {
			ask(t, strings.ReplaceAll(around, "%s", s))
		}
		if t.Failed() {
			return
		}
	}
}

// P13.1 of any two bytes, alone, in quotes and behind other tokens.
func TestAnyTwoBytes(t *testing.T) {
	for n := range 1 << 16 {
		s := string([]byte{byte(n >> 8), byte(n)})
		for _, text := range []string{s, `"` + s + `"`, `"\` + s + `"`, "#" + s + "a", "1" + s, "a" + s} {
			ask(t, text)
		}
		if t.Failed() {
			return
		}
	}
}

// P13.2 of any one or two bytes, as any Word.
func TestPrintAnyTwoBytes(t *testing.T) {
	for n := range 1<<16 + 1<<8 {
		s := string([]byte{byte(n)})
		if n >= 1<<8 {
			s = string([]byte{byte((n - 1<<8) >> 8), byte(n)})
		}
		for w := api.Word(0); w <= 5; w++ {
			askPrint(t, []api.Token{{Word: w, Text: s}})
		}
	}
}

// P13.2 of all short rows of pieces, as any Word.
func TestPrintShortRows(t *testing.T) {
	for _, s := range rows(pieces(), 3) {
		for w := api.Word(0); w <= 5; w++ {
			askPrint(t, []api.Token{{Word: w, Text: s}})
		}
		if t.Failed() {
			return
		}
	}
}

// someText lays a text of tokens and blanks of all sorts, some of which need none between.
func someText(r *rand.Rand, most int) string {
	var b strings.Builder
	blank := func() {
		for range r.Intn(3) {
			b.WriteString([]string{" ", "\t", "\n", "\r", "# a\n", "#\"\n", "#\xff#\n"}[r.Intn(7)])
		}
	}
	blank()
	for range r.Intn(most + 1) {
		token := someToken(r)
		s := reckonText(token)
		if token.Word == api.WordText && r.Intn(2) == 0 {
			s = `"` + loose(r, token.Text) + `"`
		}
		b.WriteString(s)
		if blank(); r.Intn(6) > 0 {
			b.WriteByte(' ')
		}
	}
	return b.String()
}

// loose writes the characters of a text, many as numbers.
func loose(r *rand.Rand, s string) string {
	out := ""
	for _, c := range s {
		switch {
		case c < 32 || c < 0x10000 && r.Intn(2) == 0:
			out += fmt.Sprintf([]string{`\u%04x`, `\u%04X`}[r.Intn(2)], c)
		case c == '"' || c == '\\':
			out += `\` + string(c)
		default:
			out += string(c)
		}
	}
	return out
}

// someToken is one of any Word.
func someToken(r *rand.Rand) api.Token {
	switch r.Intn(4) {
	case 0:
		s := string("abzABZ_"[r.Intn(7)])
		for range r.Intn(8) {
			s += string("aeuzAEZ_019"[r.Intn(11)])
		}
		return nameToken(s)
	case 1:
		s := []string{"", "-"}[r.Intn(2)] + []string{"0", "7", "10", "1234567890"}[r.Intn(4)]
		s += []string{"", ".0", ".25", ".000"}[r.Intn(4)]
		return numberToken(s + []string{"", "e0", "E7", "e+12", "E-999", "e00"}[r.Intn(6)])
	case 2:
		return markToken(string(".;,:=()[]{}"[r.Intn(11)]))
	}
	s := ""
	for range r.Intn(6) {
		s += []string{"a", " ", `"`, `\`, "#", "\x00", "\n", "\x1f", "\x7f", "\u0080", "\u00e9", "\u20ac", "\ufffd", "\uffff", "\U0001f600", "\U0010ffff", `\u0041`}[r.Intn(17)]
	}
	return textToken(s)
}

// changed is s with a byte changed, left out, put in between, or cut off.
func changed(r *rand.Rand, s string) string {
	b := []byte(s)
	place := r.Intn(len(b) + 1)
	c := "\"\\u0#$ \n-.e\xc3\x00a"[r.Intn(14)]
	switch {
	case place == len(b):
		return s + string([]byte{c})
	case r.Intn(3) == 0:
		b[place] = c
	case r.Intn(3) == 0:
		b = slices.Delete(b, place, place+1)
	case r.Intn(3) == 0:
		b[place] ^= 1 << r.Intn(8)
	case r.Intn(3) == 0:
		b = b[:place]
	default:
		b = slices.Insert(b, place, c)
	}
	return string(b)
}

// P13.1 of texts of all sorts, whole and changed in one place or more.
func TestSomeTexts(t *testing.T) {
	r := rand.New(rand.NewSource(131))
	taken, refused := 0, 0
	for range 20000 {
		s := someText(r, 9)
		for range 4 {
			if _, e := ask(t, s); e == api.OK {
				taken++
			} else {
				refused++
			}
			s = changed(r, s)
		}
	}
	if taken < 20000 || refused < 20000 {
		t.Errorf("%d texts are taken, %d refused: too few of one sort", taken, refused)
	}
}

// P13.2 of tokens of all sorts, whole and with one changed.
func TestSomeTokens(t *testing.T) {
	r := rand.New(rand.NewSource(132))
	for range 20000 {
		var l []api.Token
		for range 1 + r.Intn(8) {
			l = append(l, at(r.Intn(9)-4, someToken(r)))
		}
		askPrint(t, l)
		i := r.Intn(len(l))
		if r.Intn(2) == 0 {
			l[i].Word = api.Word(r.Intn(7) - 1)
		} else {
			l[i].Text = changed(r, l[i].Text)
		}
		askPrint(t, l)
	}
}

// The reckoning itself, where it can be said plainly.
func TestReckoning(t *testing.T) {
	for s, want := range map[string]int{"a1 ": 2, "_": 1, "1e5a": 3, "-0.5": 4, "01": 0, "-": 0, "1.": 0, "1-2": 0, ".5": 1, `"a"b`: 3, `"\u00e9"`: 8, `"\ud800"`: 0, `"\uD7ff"`: 8, "\"\xff\"": 0, "\"\n\"": 0, "$": 0, "": 0} {
		if _, size := reckonToken(s); size != want {
			t.Errorf("the token of %q has %d bytes, want %d", s, size, want)
		}
	}
	if s, e := lex.Print([]api.Token{textToken("\x1f\"\u00e9\\")}); s != `"\u001f\"é\\"` || e != api.OK || reckonText(textToken("\x1f\"\u00e9\\")) != s {
		t.Errorf("P13.2: Print = %s, %d", s, e)
	}
}
