package fbits_test

import (
	"math"
	"math/rand"
	"testing"

	"calamus/fbits"
)

// P2.1, of all patterns of 16 bits.
func TestWiden16(t *testing.T) {
	for h := range uint64(1 << 16) {
		got := fbits.Widen16(uint16(h))
		want := widened(meaningOf(h, half))
		if m := meaningOf(got, double); m != want {
			t.Fatalf("Widen16(%04x) = %016x: %v, want %v", h, got, m, want)
		}
	}
}

// P2.1, of patterns of 32 bits: the edges, and any.
func TestWiden32(t *testing.T) {
	patterns := edges(single)
	r := rand.New(rand.NewSource(21))
	for range 20000 {
		patterns = append(patterns, uint64(r.Uint32()))
	}
	for range 2000 {
		patterns = append(patterns, uint64(r.Uint32()&0x807fffff), uint64(r.Uint32()|0x7f800000))
	}
	for _, s := range patterns {
		got := fbits.Widen32(uint32(s))
		want := widened(meaningOf(s, single))
		if m := meaningOf(got, double); m != want {
			t.Fatalf("Widen32(%08x) = %016x: %v, want %v", s, got, m, want)
		}
	}
}

// P2.1: a machine's own widening tells the same of every number of 32 bits (a share of them here).
func TestWiden32AsTheMachine(t *testing.T) {
	for s := uint64(0); s < 1<<32; s += 1021 {
		f := math.Float32frombits(uint32(s))
		if f != f {
			continue
		}
		if got, want := fbits.Widen32(uint32(s)), math.Float64bits(float64(f)); got != want {
			t.Fatalf("Widen32(%08x) = %016x, want %016x", s, got, want)
		}
	}
}

// P2.2: 16 bits are told of just the patterns that some 16 bits are widened to.
func TestNarrowToHalf(t *testing.T) {
	all := halves()
	if len(all) != 1<<16 {
		t.Fatalf("%d unlike patterns of 65536", len(all))
	}
	for b, h := range all {
		if n, p := fbits.Narrow(b); n != 16 || p != uint64(h) {
			t.Fatalf("Narrow(%016x) = %d, %x, want 16, %x", b, n, p, h)
		}
	}
}

// isSingle tells whether 32 bits are widened to b, by the machine's own rounding.
func isSingle(b uint64) bool {
	if b<<1 > 0x7ff<<53 { // no number: the fraction must end in noughts
		return b<<(64-29) == 0
	}
	return math.Float64bits(float64(float32(math.Float64frombits(b)))) == b
}

func checkNarrow(t *testing.T, b uint64, all map[uint64]uint16) {
	t.Helper()
	n, p := fbits.Narrow(b)
	h, isHalf := all[b]
	switch {
	case isHalf:
		if n != 16 || p != uint64(h) {
			t.Fatalf("Narrow(%016x) = %d, %x, want 16, %04x", b, n, p, h)
		}
	case isSingle(b):
		if n != 32 || p>>32 != 0 || fbits.Widen32(uint32(p)) != b {
			t.Fatalf("Narrow(%016x) = %d, %x, want 32", b, n, p)
		}
	case n != 64 || p != b:
		t.Fatalf("Narrow(%016x) = %d, %x, want 64 and itself", b, n, p)
	}
}

// P2.2: just beside the patterns that can be narrowed.
func TestNarrowBeside(t *testing.T) {
	all := halves()
	for _, h := range edges(half) {
		for _, b := range beside(fbits.Widen16(uint16(h))) {
			checkNarrow(t, b, all)
		}
	}
	for _, s := range edges(single) {
		w := fbits.Widen32(uint32(s))
		checkNarrow(t, w, all)
		for _, b := range beside(w) {
			checkNarrow(t, b, all)
		}
	}
	for b := range all {
		checkNarrow(t, b-1, all)
		checkNarrow(t, b+1, all)
		checkNarrow(t, b^1<<41, all)
		checkNarrow(t, b^1<<28, all)
	}
}

// P2.2: the edges of 64 bits, and any.
func TestNarrowAny(t *testing.T) {
	all := halves()
	for _, b := range edges(double) {
		checkNarrow(t, b, all)
	}
	for _, b := range somePatterns(22, 30000) {
		checkNarrow(t, b, all)
	}
}

// P2.2, by hand: the edges of each width, and what is just beyond.
func TestNarrowEdges(t *testing.T) {
	for _, x := range []struct {
		b    uint64
		n    int
		want uint64
	}{
		{0, 16, 0},
		{0x3e70000000000000, 16, 0x0001},     // the least subnormal one of 16 bits
		{0x3e60000000000000, 32, 0x33000000}, // half of it
		{0x3f0ff80000000000, 16, 0x03ff},     // the greatest subnormal one of 16 bits
		{0x3f0ffc0000000000, 32, 0x387fe000}, // it has a bit too many
		{0x3f10000000000000, 16, 0x0400},     // the least normal one of 16 bits
		{0x40effc0000000000, 16, 0x7bff},     // the greatest one of 16 bits
		{0x40f0000000000000, 32, 0x47800000}, // 65536
		{0x40effc0000000001, 64, 0x40effc0000000001},
		{0x36a0000000000000, 32, 0x00000001}, // the least subnormal one of 32 bits
		{0x3690000000000000, 64, 0x3690000000000000},
		{0x380fffffc0000000, 32, 0x007fffff}, // the greatest subnormal one of 32 bits
		{0x380fffffe0000000, 64, 0x380fffffe0000000},
		{0x3810000000000000, 32, 0x00800000}, // the least normal one of 32 bits
		{0x47efffffe0000000, 32, 0x7f7fffff}, // the greatest one of 32 bits
		{0x47effffff0000000, 64, 0x47effffff0000000},
		{0x47f0000000000000, 64, 0x47f0000000000000},
		{0x7fefffffffffffff, 64, 0x7fefffffffffffff},
		{0x000fffffffffffff, 64, 0x000fffffffffffff},
		{0x0010000000000000, 64, 0x0010000000000000},
		{0x7ff0000000000000, 16, 0x7c00},
		{0xfff0000000000000, 16, 0xfc00},
		{0x7ff8000000000000, 16, 0x7e00},
		{0x7ff0040000000000, 16, 0x7c01},
		{0x7ff0020000000000, 32, 0x7f801000},
		{0x7ff0000020000000, 32, 0x7f800001},
		{0x7ff0000010000000, 64, 0x7ff0000010000000},
		{0xffffffffffffffff, 64, 0xffffffffffffffff},
		{0xffffffffe0000000, 32, 0xffffffff},
		{0xfffffc0000000000, 16, 0xffff},
	} {
		if n, p := fbits.Narrow(x.b); n != x.n || p != x.want {
			t.Errorf("Narrow(%016x) = %d, %x, want %d, %x", x.b, n, p, x.n, x.want)
		}
	}
}
