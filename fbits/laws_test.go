package fbits_test

import (
	"testing"

	"calamus/fbits"
)

// wide is what a pattern of so many bits is widened to.
func wide(n int, p uint64) (uint64, bool) {
	switch {
	case n == 16 && p < 1<<16:
		return fbits.Widen16(uint16(p)), true
	case n == 32 && p < 1<<32:
		return fbits.Widen32(uint32(p)), true
	}
	return p, n == 64
}

// P2.5 (T1): narrowed and widened again is the same.
func TestNarrowAndWiden(t *testing.T) {
	patterns := append(edges(double), somePatterns(26, 30000)...)
	for _, s := range edges(single) {
		patterns = append(patterns, fbits.Widen32(uint32(s)))
	}
	for _, b := range patterns {
		n, p := fbits.Narrow(b)
		if got, ok := wide(n, p); !ok || got != b {
			t.Errorf("Narrow(%016x) = %d, %x, which is widened to %016x", b, n, p, got)
		}
	}
}

// P2.5: nothing narrower would do, of what 32 bits are told for.
func TestNothingNarrower(t *testing.T) {
	all := halves()
	for _, b := range somePatterns(27, 30000) {
		if n, _ := fbits.Narrow(b); n > 16 {
			if h, ok := all[b]; ok {
				t.Errorf("Narrow(%016x) tells %d bits, but Widen16(%04x) is it", b, n, h)
			}
		}
	}
}

// P2.5: widening keeps the sign and the class, but that of the subnormal ones.
func TestWideningKeeps(t *testing.T) {
	check := func(n int, p uint64, l layout) {
		b, _ := wide(n, p)
		m := meaningOf(p, l)
		if minus := b>>63 == 1; minus != m.minus {
			t.Errorf("%d bits %x: the sign of %016x", n, p, b)
		}
		if got, want := fbits.Class(b), widened(m).class; got != want {
			t.Errorf("%d bits %x: the class %d, want %d", n, p, got, want)
		}
	}
	for h := range uint64(1 << 16) {
		check(16, h, half)
	}
	for _, s := range edges(single) {
		check(32, s, single)
	}
}

// P2.5: unlike patterns stay unlike (of 16 bits in TestNarrowToHalf).
func TestUnlikeStayUnlike(t *testing.T) {
	seen := map[uint64]uint32{}
	check := func(s uint32) {
		b := fbits.Widen32(s)
		if was, ok := seen[b]; ok && was != s {
			t.Fatalf("Widen32(%08x) and Widen32(%08x) are %016x", was, s, b)
		}
		seen[b] = s
	}
	for _, s := range edges(single) {
		check(uint32(s))
		check(uint32(s) - 1)
		check(uint32(s) + 1)
	}
	for s := range uint32(1 << 16) {
		check(s)
		check(s << 16)
		check(0x7f800000 | s)
		check(0xff7fffff - s)
	}
}

// R2: an answer hangs on the argument alone.
func TestSameAnswerAgain(t *testing.T) {
	for _, b := range somePatterns(28, 500) {
		n, p := fbits.Narrow(b)
		s := fbits.Hex(b)
		if n2, p2 := fbits.Narrow(b); n2 != n || p2 != p || fbits.Hex(b) != s {
			t.Errorf("%016x: another answer the second time", b)
		}
	}
}
