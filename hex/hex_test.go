package hex_test

import (
	"fmt"
	"strings"
	"testing"

	"calamus/hex"
)

// Each byte, and some together, there and back.
func TestPairs(t *testing.T) {
	all := ""
	for c := range 256 {
		s := string([]byte{byte(c)})
		all += s
		if got := hex.Pairs(s); got != fmt.Sprintf("%02x", c) {
			t.Errorf("Pairs of %d = %s", c, got)
		}
	}
	for _, s := range []string{"", "a", all, all + all, strings.Repeat("\xff\x00", 4096)} {
		p := hex.Pairs(s)
		if p != fmt.Sprintf("%x", s) {
			t.Errorf("Pairs(%q) = %s", s, p)
		}
		if b, ok := hex.Bytes(p); b != s || !ok {
			t.Errorf("Bytes(%s) = %q, %t", p, b, ok)
		}
	}
}

// Each pair of bytes: just those of two digits are taken.
func TestBytes(t *testing.T) {
	taken := 0
	for n := range 1 << 16 {
		s := string([]byte{byte(n >> 8), byte(n)})
		b, ok := hex.Bytes(s)
		if ok {
			taken++
		}
		if ok && hex.Pairs(b) != s || !ok && b != "" {
			t.Errorf("Bytes(%q) = %q, %t", s, b, ok)
		}
	}
	if taken != 256 {
		t.Errorf("%d pairs are taken", taken)
	}
	for _, s := range []string{"0", "000", "0F", "F0", "0g", "0x00", " 00", "00 ", "00 00", "00\x00\x00", "zz00", "00zz", "\u00e9", "0\u00e9"} {
		if b, ok := hex.Bytes(s); b != "" || ok {
			t.Errorf("Bytes(%q) = %q, %t", s, b, ok)
		}
	}
}

func TestDigit(t *testing.T) {
	for c := range 256 {
		want := strings.Index("0123456789abcdef", string(rune(c)))
		if d, ok := hex.Digit(byte(c)); ok != (want >= 0) || d != max(want, 0) {
			t.Errorf("Digit(%d) = %d, %t", c, d, ok)
		}
	}
}
