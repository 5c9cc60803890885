package utf_test

import (
	"fmt"
	"math/rand"
	"strings"
	"sync"
	"testing"

	"calamus/api"
	"calamus/utf"
)

// bytesOf are a character's bytes, by the chapter's section 'Words', with none of the library's calls.
func bytesOf(r int) string {
	six := func(shift int) byte { return byte(0x80 + r>>shift&0x3f) }
	switch {
	case r <= 0x7f:
		return string([]byte{byte(r)})
	case r <= 0x7ff:
		return string([]byte{byte(0xc0 + r>>6), six(0)})
	case r <= 0xffff:
		return string([]byte{byte(0xe0 + r>>12), six(6), six(0)})
	}
	return string([]byte{byte(0xf0 + r>>18), six(12), six(6), six(0)})
}

// known are all characters by their bytes, and all that begins one's bytes and is not all of them.
type known struct {
	characters map[string]int
	beginnings map[string]bool
}

var all = sync.OnceValue(func() known {
	k := known{make(map[string]int, 1112064), map[string]bool{}}
	for r := range 0x110000 {
		if r >= 0xd800 && r <= 0xdfff {
			continue
		}
		s := bytesOf(r)
		k.characters[s] = r
		for cut := 1; cut < len(s); cut++ {
			k.beginnings[s[:cut]] = true
		}
	}
	return k
})

// first looks up the character that s, which is not empty, begins with.
func first(s string) (int, int, api.Errno) {
	k := all()
	for n := 1; n <= min(4, len(s)); n++ {
		if r, ok := k.characters[s[:n]]; ok {
			return r, n, api.OK
		}
	}
	if k.beginnings[s] {
		return 0, 0, api.ErrUtfEnd
	}
	return 0, 0, api.ErrUtfForm
}

// charactersOf are those of s, and what stops them: OK at the end of s.
func charactersOf(s string) ([]int, api.Errno) {
	var list []int
	for s != "" {
		r, n, e := first(s)
		if e != api.OK {
			return nil, e
		}
		list = append(list, r)
		s = s[n:]
	}
	return list, api.OK
}

// edges are the characters beside which the number of bytes, or what may be, is another.
func edges() []int {
	return []int{0, 1, 0x41, 0x7e, 0x7f, 0x80, 0x81, 0xbf, 0xc0, 0xff, 0x100, 0x7fe, 0x7ff, 0x800, 0x801, 0xfff, 0x1000, 0x20ac, 0xcfff, 0xd000, 0xd7fe, 0xd7ff, 0xe000, 0xe001, 0xefff, 0xf000, 0xfeff, 0xfffc, 0xfffd, 0xfffe, 0xffff, 0x10000, 0x10001, 0x1f600, 0x3ffff, 0x40000, 0xfffff, 0x100000, 0x10fffd, 0x10fffe, 0x10ffff}
}

// noTexts are bytes that no text begins with, each for a reason of its own.
func noTexts() []string {
	list := []string{
		"\xc0\x80", "\xc0\xaf", "\xc1\xbf", // too long: of one byte
		"\xe0\x80\x80", "\xe0\x80\xaf", "\xe0\x9f\xbf", // of one and of two
		"\xf0\x80\x80\x80", "\xf0\x80\x80\xaf", "\xf0\x82\x82\xac", "\xf0\x8f\xbf\xbf", // of three, too
		"\xf8\x80\x80\x80\xaf", "\xfc\x80\x80\x80\x80\xaf",
		"\xed\xa0\x80", "\xed\xad\xbf", "\xed\xaf\xbf", "\xed\xb0\x80", "\xed\xbf\xbf", "\xed\xa0\xbd\xed\xb8\x80", // d800 to dfff
		"\xf4\x90\x80\x80", "\xf4\xbf\xbf\xbf", "\xf5\x80\x80\x80", "\xf7\xbf\xbf\xbf", "\xf8\x88\x80\x80\x80", // above 10ffff
		"\xc3\x28", "\xc3\xc3\xa9", "\xe2\x28\xac", "\xe2\x82\x28", "\xe2\x82\xe2\x82\xac", "\xef\xbf\xef\xbf\xbd", // too few bytes, then others
		"\xf0\x28\x98\x80", "\xf0\x9f\x28\x80", "\xf0\x9f\x98\x28", "\xf0\x9f\x98\xf0\x9f\x98\x80",
		"\xc3\xa9\x80", "\xe2\x82\xac\x80", "\xf0\x9f\x98\x80\x80", "a\x80", "\xef\xbf\xbd\xbf", // too many
		"\xe0\x80", "\xe0\x9f", "\xed\xa0", "\xed\xbf", "\xf0\x80", "\xf0\x8f", "\xf4\x90", "\xf4\xbf", // cut off, and too late already
	}
	for b := 0x80; b <= 0xff; b++ {
		if b < 0xc2 || b > 0xf4 {
			list = append(list, string([]byte{byte(b)})) // no character's first byte
		}
	}
	return list
}

// edgeBytes are those at which what may follow, or what may begin, is another.
const edgeBytes = "\x00A\x7f\x80\x8f\x90\x9f\xa0\xbf\xc0\xc1\xc2\xdf\xe0\xe1\xec\xed\xee\xef\xf0\xf1\xf3\xf4\xf5\xf8\xff"

// edgeStrings are all of up to so many of the edges' bytes.
func edgeStrings(most int) []string {
	list := []string{""}
	for from := 0; len(list[from]) < most; from++ {
		for i := range len(edgeBytes) {
			list = append(list, list[from]+edgeBytes[i:i+1])
		}
	}
	return list
}

// shortStrings are up to three of the edges' bytes, and any two bytes.
func shortStrings() []string {
	list := edgeStrings(3)
	for i := range 1 << 16 {
		list = append(list, string([]byte{byte(i >> 8), byte(i)}))
	}
	return list
}

// someStrings are characters, with a byte changed, left out or put in between in some, cut off in some.
func someStrings(seed int64, count int) []string {
	r := rand.New(rand.NewSource(seed))
	pool := edges()
	var list []string
	for range count {
		var b []byte
		for range r.Intn(7) {
			b = append(b, bytesOf(pool[r.Intn(len(pool))])...)
		}
		if at := r.Intn(len(b) + 1); at < len(b) {
			switch r.Intn(6) {
			case 0:
				b[at] = edgeBytes[r.Intn(len(edgeBytes))]
			case 1:
				b[at] ^= 1 << r.Intn(8)
			case 2:
				b = append(b[:at], b[at+1:]...)
			case 3:
				b = append(b[:at], append([]byte{byte(r.Intn(256))}, b[at:]...)...)
			case 4:
				b = b[:at]
			}
		}
		list = append(list, string(b))
	}
	return list
}

func TestExamples(t *testing.T) {
	same := func(call string, got, want any) {
		t.Helper()
		if got != want {
			t.Errorf("%s = %v, want %v", call, got, want)
		}
	}
	encode := func(r int) string {
		s, e := utf.Encode(r)
		return fmt.Sprintf("% x, %d", s, e)
	}
	same("Encode(e9)", encode(0xe9), "c3 a9, 0")
	same("Encode(20ac)", encode(0x20ac), "e2 82 ac, 0")
	same("Encode(1f600)", encode(0x1f600), "f0 9f 98 80, 0")
	same("Encode(d800)", encode(0xd800), ", 1")
	same("Encode(-1)", encode(-1), ", 1")
	decode := func(s string, at int) string {
		r, n, e := utf.Decode(s, at)
		return fmt.Sprintf("%x and %d, %d", r, n, e)
	}
	same("Decode(61 e2 82 ac, 1)", decode("\x61\xe2\x82\xac", 1), "20ac and 3, 0")
	same("Decode(e2 82, 0)", decode("\xe2\x82", 0), "0 and 0, 31")
	same("Decode(c0 80, 0)", decode("\xc0\x80", 0), "0 and 0, 30")
	same("Decode(nothing, 0)", decode("", 0), "0 and 0, 1")
	same("Valid(ed a0 80)", utf.Valid("\xed\xa0\x80"), false)
	same("Valid(f4 90 80 80)", utf.Valid("\xf4\x90\x80\x80"), false)
	n, e := utf.Count("\xc3\xa9\x61")
	same("Count(c3 a9 61)", fmt.Sprint(n, e), "2 error 0")
	c := utf.New()
	feed := func(b ...byte) int { return int(c.Feed(b)) }
	same("Feed(e2)", feed(0xe2), 0)
	same("End()", int(c.End()), 31)
	same("Feed(82 ac)", feed(0x82, 0xac), 0)
	same("End()", int(c.End()), 0)
	same("Feed(ff)", feed(0xff), 30)
	same("Feed(61)", feed(0x61), 30)
}

// longText is a text of characters of all lengths, of about so many bytes.
func longText(size int) string {
	var b strings.Builder
	for b.Len() < size {
		for _, r := range edges() {
			b.WriteString(bytesOf(r))
		}
	}
	return b.String()
}
