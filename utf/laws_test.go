package utf_test

import (
	"math/rand"
	"testing"

	"calamus/api"
	"calamus/utf"
)

// agrees tells whether a checker at its end says what Valid says.
func agrees(c *utf.Checker, s string) bool {
	return (c.End() == api.OK) == utf.Valid(s)
}

// P3.4 (T3): in whatever parts, what is said is what Valid says of the whole.
func TestPartsAndWhole(t *testing.T) {
	for _, s := range append(shortStrings(), someStrings(34, 3000)...) {
		n := max(len(s)-1, 0)
		step := max(1, 1<<n/64) | 1 // of many cuttings some, of few all
		for cuts := 0; cuts < 1<<n; cuts += step {
			if c := feedAll(s, cuts); !agrees(c, s) {
				t.Errorf("% x, cuts %b: End = %d, Valid is %v", s, cuts, c.End(), utf.Valid(s))
			}
		}
	}
}

// feedAll feeds s cut behind each place whose bit is in cuts.
func feedAll(s string, cuts int) *utf.Checker {
	c, from := utf.New(), 0
	for at := 1; at <= len(s); at++ {
		if at == len(s) || cuts>>(at-1)&1 == 1 {
			c.Feed([]byte(s[from:at]))
			from = at
		}
	}
	return c
}

// P3.4 of up to four bytes, all of which are edges, in all parts.
func TestPartsOfFourBytes(t *testing.T) {
	for _, s := range edgeStrings(4) {
		for cuts := range 1 << max(len(s)-1, 0) {
			if c := feedAll(s, cuts); !agrees(c, s) {
				t.Errorf("% x, cuts %b: End = %d, Valid is %v", s, cuts, c.End(), utf.Valid(s))
			}
		}
	}
}

// P3.4 of long texts, in parts of any lengths, whole and with one byte changed.
func TestLongParts(t *testing.T) {
	r := rand.New(rand.NewSource(35))
	text := []byte(longText(1 << 16))
	for range 60 {
		s := append([]byte{}, text...)
		if r.Intn(3) > 0 {
			s[r.Intn(len(s))] ^= 1 << r.Intn(8)
		}
		c := utf.New()
		for at := 0; at < len(s); {
			n := min(len(s)-at, r.Intn(3000))
			c.Feed(s[at : at+n])
			at += n
		}
		if !agrees(c, string(s)) {
			t.Errorf("a long text: End = %d, Valid is %v", c.End(), utf.Valid(string(s)))
		}
	}
	if c := utf.New(); c.Feed(text) != api.OK || c.End() != api.OK || !utf.Valid(string(text)) {
		t.Error("a long text is refused")
	}
}

// P3.4: what is encoded is decoded as itself.
func TestEncodeAndDecode(t *testing.T) {
	for r := range 0x110000 {
		s, e := utf.Encode(r)
		if e != api.OK {
			continue
		}
		if got, n, e := utf.Decode(s, 0); got != r || n != len(s) || e != api.OK {
			t.Fatalf("Decode(% x) = %x, %d, %d, want %x", s, got, n, e, r)
		}
	}
}

// P3.4: characters of a text, encoded again, are the text; and they are as many as Count says.
func TestDecodeAndEncode(t *testing.T) {
	texts := 0
	for _, s := range append(someStrings(36, 20000), longText(5000), "") {
		if !utf.Valid(s) {
			continue
		}
		texts++
		again, count := "", 0
		for at := 0; at < len(s); count++ {
			r, n, e := utf.Decode(s, at)
			if e != api.OK || n < 1 {
				t.Fatalf("Decode(% x, %d) = %x, %d, %d", s, at, r, n, e)
			}
			c, _ := utf.Encode(r)
			again += c
			at += n
		}
		if n, _ := utf.Count(s); again != s || n != count {
			t.Errorf("% x: again % x; %d characters, Count says %d", s, again, count, n)
		}
	}
	if texts < 1000 {
		t.Errorf("only %d texts", texts)
	}
}
