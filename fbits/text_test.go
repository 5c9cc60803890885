package fbits_test

import (
	"fmt"
	"math"
	"strings"
	"testing"

	"calamus/api"
	"calamus/fbits"
)

// P2.3, of the edges (with each bit of the fraction), and of any.
func TestClass(t *testing.T) {
	for _, b := range append(edges(double), somePatterns(23, 3000)...) {
		if got, want := fbits.Class(b), meaningOf(b, double).class; got != want {
			t.Errorf("Class(%016x) = %d, want %d", b, got, want)
		}
	}
	for b, want := range map[uint64]int{
		0: 1, 1 << 63: 1,
		1: 2, 0x000fffffffffffff: 2, 0x800fffffffffffff: 2, 0x0008000000000000: 2,
		0x0010000000000000: 3, 0x7fefffffffffffff: 3, 0xbff0000000000000: 3,
		0x7ff0000000000000: 4, 0xfff0000000000000: 4,
		0x7ff0000000000001: 5, 0x7ff8000000000000: 5, 0xffffffffffffffff: 5,
	} {
		if got := fbits.Class(b); got != want {
			t.Errorf("Class(%016x) = %d, want %d", b, got, want)
		}
	}
}

// P2.3: the machine's own words for it tell the same.
func TestClassAsTheMachine(t *testing.T) {
	for _, b := range somePatterns(24, 3000) {
		f, c := math.Float64frombits(b), fbits.Class(b)
		if (c == classNone) != math.IsNaN(f) || (c == classInfinity) != math.IsInf(f, 0) || (c == classZero) != (f == 0) {
			t.Errorf("Class(%016x) = %d, of %v", b, c, f)
		}
	}
}

// P2.4: Hex, and Unhex of what it told.
func TestHex(t *testing.T) {
	patterns := append(edges(double), somePatterns(25, 1000)...)
	patterns = append(patterns, 0x0123456789abcdef, 0xfedcba9876543210)
	for k := range 64 {
		patterns = append(patterns, 1<<k)
	}
	for _, b := range patterns {
		s := fbits.Hex(b)
		if want := fmt.Sprintf("%016x", b); s != want {
			t.Errorf("Hex(%x) = %q, want %q", b, s, want)
		}
		if got, e := fbits.Unhex(s); got != b || e != api.OK {
			t.Errorf("Unhex(%q) = %x, %d", s, got, e)
		}
	}
}

func checkNoHex(t *testing.T, s string) {
	t.Helper()
	if b, e := fbits.Unhex(s); b != 0 || e != api.ErrFloatForm {
		t.Errorf("Unhex(%q) = %x, %d, want 0, 20", s, b, e)
	}
}

// P2.4: texts of another length.
func TestUnhexLength(t *testing.T) {
	for n := range 40 {
		if n != 16 {
			checkNoHex(t, strings.Repeat("0", n))
			checkNoHex(t, strings.Repeat("f", n))
		}
	}
	for _, s := range []string{"00000000000001f", "0000000000000001f", "0x0000000000001f", "0x000000000000001f", " 000000000000001f", "000000000000001f\n", strings.Repeat("1", 65536)} {
		checkNoHex(t, s)
	}
}

// P2.4: every byte at every place.
func TestUnhexBytes(t *testing.T) {
	const good = "0123456789abcdef"
	for at := range good {
		for c := range 256 {
			text := []byte(good)
			text[at] = byte(c)
			s := string(text)
			digit := strings.IndexByte(good, byte(c))
			if digit < 0 {
				checkNoHex(t, s)
				continue
			}
			shift := 4 * (15 - at)
			want := uint64(0x0123456789abcdef)&^(15<<shift) | uint64(digit)<<shift
			if b, e := fbits.Unhex(s); b != want || e != api.OK {
				t.Errorf("Unhex(%q) = %x, %d", s, b, e)
			}
		}
	}
}

// P2.4: 16 characters are not 16 bytes.
func TestUnhexCharacters(t *testing.T) {
	checkNoHex(t, strings.Repeat("é", 8))
	checkNoHex(t, strings.Repeat("é", 16))
	checkNoHex(t, "00000000000000\u0660")
	checkNoHex(t, "ABCDEFABCDEFABCD")
	checkNoHex(t, "+00000000000001f")
	checkNoHex(t, "-000000000000001")
	checkNoHex(t, "0000_0000_0000_1")
}
