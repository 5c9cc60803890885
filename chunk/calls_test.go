package chunk_test

import (
	"math"
	"testing"

	"calamus/api"
	"calamus/chunk"
)

// P6.1 of limits that may be, and of those that may not.
func TestNew(t *testing.T) {
	for _, limit := range []int{0, 1, 2, 15, 16, 17, 4096, 65535, 65536} {
		p := newPair(t, limit)
		p.take(1)
		p.peek(1)
		p.take(0)
		p.back(0)
		p.back(1)
		p.feed(limit)
		p.feed(1)
		p.wantRest()
	}
	for _, limit := range []int{math.MinInt, -65536, -1, 65537, 65536 + 65536, 1 << 31, 1 << 32, math.MaxInt} {
		if s, e := chunk.New(limit); s != nil || e != api.ErrArg {
			t.Errorf("P6.1: New(%d) = %v, %d", limit, s, e)
		}
	}
}

// P6.2: no more than the limit, in however many parts; what is refused is not fed, and less can be.
func TestFeedLimit(t *testing.T) {
	for _, limit := range []int{0, 1, 2, 3, 8, 17, 40, 65536} {
		for _, first := range []int{0, 1, 2, 7, limit / 2, limit - 1, limit} {
			if first < 0 || first > limit {
				continue
			}
			p := newPair(t, limit)
			if p.feed(limit+1) != api.ErrLimit || p.feed(first) != api.OK || p.feed(limit-first+1) != api.ErrLimit {
				t.Errorf("P6.2: limit %d, first %d: the limit is not held", limit, first)
			}
			p.take(first / 2)
			p.back(min(first/2, 3))
			p.feed(limit - first + 1) // bytes that are taken count as well
			p.feed(0)
			p.feed(limit - first)
			p.feed(0)
			p.feed(1)
			p.wantRest()
			p.feed(0)
			p.feed(1)
			p.back(1)
			p.feed(1)
			p.wantRest()
		}
	}
}

// P6.2 of no bytes, which may be a nil list, and of more than any limit.
func TestFeedNoneAndMany(t *testing.T) {
	for _, limit := range []int{0, 3} {
		s, _ := chunk.New(limit)
		if e := s.Feed(make([]byte, 1<<20)); e != api.ErrLimit || s.Total() != 0 || s.Left() != 0 {
			t.Errorf("P6.2: limit %d: Feed of 2^20 bytes = %d, Total = %d", limit, e, s.Total())
		}
		if e := s.Feed(make([]byte, limit)); e != api.OK {
			t.Errorf("P6.2: limit %d: Feed of the limit = %d", limit, e)
		}
		for _, b := range [][]byte{nil, {}, make([]byte, 0, 9)} {
			if e := s.Feed(b); e != api.OK || s.Total() != limit || s.Left() != limit {
				t.Errorf("P6.2: limit %d: Feed of none = %d, Total = %d", limit, e, s.Total())
			}
		}
	}
}

// P6.2 of one byte at a time, up to the limit.
func TestFeedByteByByte(t *testing.T) {
	for _, limit := range []int{1, 5, 300} {
		p := newPair(t, limit)
		for range limit {
			if p.feed(1) != api.OK {
				t.Fatalf("P6.2: limit %d: one byte less was fed", limit)
			}
		}
		p.feed(1)
		p.feed(2)
		p.feed(0)
		p.wantRest()
	}
}

// P6.3 of numbers that may not be, and of one more than is left, at every place.
func TestTakeAndPeekNumbers(t *testing.T) {
	for fed := range 40 {
		p := newPair(t, 64)
		p.feed(fed)
		for {
			left := p.s.Left()
			for _, n := range []int{math.MinInt, math.MinInt + 1, -65536, -2, -1, left + 1, left + 16, 65537, 1 << 31, 1 << 32, math.MaxInt - 1, math.MaxInt} {
				if b, ok := p.take(n); b != nil && len(b) != 0 || ok {
					t.Errorf("P6.3: Take(%d) of %d = %x, %v", n, left, b, ok)
				}
				p.peek(n)
			}
			for n := 0; n <= left; n++ {
				p.peek(n)
				p.peek(n)
			}
			p.take(0)
			if left == 0 {
				break
			}
			p.take(1)
		}
	}
}

// P6.3: taking any number, wherever, and then the rest.
func TestTakeSizes(t *testing.T) {
	for a := range 36 {
		for b := range 36 {
			p := newPair(t, 70)
			p.feed(a)
			p.take(b)
			p.feed(34)
			p.take(b)
			p.wantRest()
		}
	}
}

// P6.3 of all that a source can hold, at once.
func TestTakeAll(t *testing.T) {
	p := newPair(t, 65536)
	p.feed(65536)
	p.peek(65536)
	p.take(65537)
	if b, ok := p.take(65536); !ok || len(b) != 65536 {
		t.Errorf("P6.3: Take(65536) = %d bytes, %v", len(b), ok)
	}
	p.take(0)
	p.take(1)
}

// P6.4 of each number, after each number of bytes taken.
func TestBackNumbers(t *testing.T) {
	for taken := range 40 {
		for _, n := range []int{math.MinInt, -65536, -17, -1, 0, 1, 2, 3, 4, 5, 6, 7, 8, 9, 10, 11, 12, 13, 14, 15, 16, 17, 18, 32, 39, 65536, 1 << 31, 1 << 32, math.MaxInt - 16, math.MaxInt} {
			p := newPair(t, 64)
			p.feed(44)
			p.take(taken)
			want := api.OK
			if n < 0 {
				want = api.ErrArg
			} else if n > 16 || n > taken {
				want = api.ErrChunkBack
			}
			if got := p.back(n); got != want {
				t.Errorf("P6.4: Back(%d) of %d taken = %d, want %d", n, taken, got, want)
			}
			p.feed(20)
			p.wantRest()
			p.back(16)
			p.wantRest()
		}
	}
}

// P6.4: what is pushed back in several calls counts in all; what was taken again does not.
func TestBackInSteps(t *testing.T) {
	for a := range 18 {
		for b := range 18 {
			for again := range 18 {
				p := newPair(t, 64)
				p.feed(64)
				p.take(40)
				p.back(a)
				p.take(again)
				p.back(b)
				p.back(16)
				p.back(1)
				p.wantRest()
				p.back(17)
				p.back(16)
				p.back(1)
				p.wantRest()
			}
		}
	}
}

// P6.4: the bytes behind the first that was never taken do not count.
func TestBackCountsFromTheFurthest(t *testing.T) {
	p := newPair(t, 100)
	p.feed(100)
	p.take(50)
	p.back(16)
	p.take(10)
	if p.back(11) != api.ErrChunkBack || p.back(10) != api.OK || p.back(1) != api.ErrChunkBack {
		t.Errorf("P6.4: 16 bytes of those that were taken once, and no more")
	}
	p.take(17)
	if p.back(17) != api.ErrChunkBack || p.back(16) != api.OK {
		t.Errorf("P6.4: one more was taken: one less can be reached")
	}
	p.wantRest()
}

// P6.4 at the greatest source, whole and byte by byte.
func TestBackAtTheGreatest(t *testing.T) {
	for _, size := range []int{65536, 4096, 64, 17, 16} {
		p := newPair(t, 65536)
		for p.s.Total() < 65536 {
			p.feed(min(size, 65536-p.s.Total()))
			p.take(p.s.Left())
		}
		for _, n := range []int{17, 65536, 65537, math.MaxInt, math.MaxInt - 65536} {
			if p.back(n) != api.ErrChunkBack {
				t.Errorf("P6.4: Back(%d) behind 65536 bytes", n)
			}
		}
		for range 16 {
			p.back(1)
		}
		p.back(1)
		p.wantRest()
		p.back(16)
		p.back(math.MaxInt)
		p.wantRest()
	}
}

// P6.4: a source at its beginning has nothing to push back.
func TestBackAtTheBeginning(t *testing.T) {
	p := newPair(t, 10)
	for range 2 {
		if p.back(0) != api.OK || p.back(1) != api.ErrChunkBack || p.back(-1) != api.ErrArg || p.back(math.MinInt) != api.ErrArg {
			t.Errorf("P6.4: nothing is taken yet")
		}
		p.feed(5)
		p.peek(5)
	}
	p.take(3)
	p.back(4)
	p.back(3)
	p.back(1)
	p.wantRest()
}
