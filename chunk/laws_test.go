package chunk_test

import (
	"bytes"
	"math"
	"math/rand"
	"testing"

	"calamus/api"
)

// P6.6: fed in parts of one size and taken in those of another, what comes is what was fed.
func TestPartsOfEachSize(t *testing.T) {
	const all = 150
	for in := 1; in <= 40; in++ {
		for out := 1; out <= 40; out++ {
			p := newPair(t, all)
			var got []byte
			for p.s.Total() < all || p.s.Left() > 0 {
				p.feed(min(in, all-p.s.Total()))
				for p.s.Left() >= out || p.s.Total() == all && p.s.Left() > 0 {
					b, _ := p.take(min(out, p.s.Left()))
					got = append(got, b...)
				}
			}
			if !bytes.Equal(got, part(0, all)) {
				t.Errorf("P6.6: parts of %d, taken by %d: %s", in, out, short(got))
			}
		}
	}
}

// P6.6 with some pushed back ahead of each Feed, and taken again behind it.
func TestPartsPushedBack(t *testing.T) {
	for in := 1; in <= 20; in++ {
		for back := 0; back <= 18; back++ {
			p := newPair(t, 120)
			var got []byte
			for p.feed(in) == api.OK {
				b, _ := p.take(p.s.Left())
				got = append(got, b...)
				if p.back(back) == api.OK {
					got = got[:len(got)-back]
				}
			}
			b, _ := p.take(p.s.Left())
			if got = append(got, b...); !bytes.Equal(got, part(0, p.s.Total())) {
				t.Errorf("P6.6: parts of %d, %d pushed back: %s", in, back, short(got))
			}
		}
	}
}

// P6.6 of the greatest source, in parts and takes of several sizes, with little and with much left.
func TestGreatest(t *testing.T) {
	for _, c := range []struct{ in, ahead, out int }{{1, 0, 1}, {7, 0, 16}, {64, 1000, 33}, {1, 40000, 1}, {4096, 5000, 4095}, {65535, 0, 1024}} {
		p := newPair(t, 65536)
		var got []byte
		p.feed(c.ahead)
		for i := 0; p.s.Total() < 65536 || p.s.Left() > 0; i++ {
			p.feed(min(c.in, 65536-p.s.Total()))
			if i%50 == 49 && p.back(i%17) == api.OK {
				got = got[:len(got)-i%17]
			}
			b, _ := p.take(min(c.out, p.s.Left()))
			got = append(got, b...)
		}
		if !bytes.Equal(got, part(0, 65536)) {
			t.Errorf("P6.6: %v: not what was fed", c)
		}
	}
}

// step is one call of a row.
type step struct {
	call func(p *pair, n int)
	n    int
}

func feedStep(p *pair, n int) { p.feed(n) }
func takeStep(p *pair, n int) { p.take(n) }
func backStep(p *pair, n int) { p.back(n) }

// P6.1 to P6.6 of all short rows of calls.
func TestAllShort(t *testing.T) {
	letters := []step{{feedStep, 1}, {feedStep, 20}, {takeStep, 1}, {takeStep, 17}, {backStep, 1}, {backStep, 8}, {backStep, 16}, {backStep, 17}}
	const long = 6
	rows := 1
	for range long {
		rows *= len(letters)
	}
	for row := range rows {
		p := newPair(t, 61)
		for range long {
			letters[row%len(letters)].call(p, letters[row%len(letters)].n)
			row /= len(letters)
		}
		p.wantRest()
		if t.Failed() {
			return
		}
	}
}

// P6.1 to P6.6 of long rows of calls.
func TestLongRows(t *testing.T) {
	r := rand.New(rand.NewSource(66))
	wild := []int{math.MinInt, -1, 17, 65537, math.MaxInt}
	for range 300 {
		p := newPair(t, r.Intn(3000))
		most := 1 + r.Intn(60)
		for range 300 {
			n := r.Intn(most)
			switch r.Intn(12) {
			case 0, 1, 2, 3:
				p.feed(n)
			case 4, 5, 6:
				p.take(n)
			case 7:
				p.take(p.s.Left())
			case 8:
				p.peek(n)
			case 9, 10:
				p.back(r.Intn(18))
			default:
				n = wild[r.Intn(len(wild))]
				p.take(n)
				p.peek(n)
				p.back(n)
			}
		}
		p.wantRest()
		if t.Failed() {
			return
		}
	}
}
