package chunk_test

import (
	"bytes"
	"testing"

	"calamus/api"
	"calamus/chunk"
)

// R2: what was handed in may be changed by the caller, and is not written into, nor is its spare room.
func TestFeedKeepsNothing(t *testing.T) {
	s, _ := chunk.New(100)
	whole := []byte("abcdefghijklmnop")
	for i := 0; i < len(whole); i += 4 {
		b := whole[i : i+3] // the byte behind it is spare room
		if e := s.Feed(b); e != api.OK {
			t.Fatalf("P6.2: Feed = %d", e)
		}
		if string(whole[i:i+4]) != "abcdefghijklmnop"[i:i+4] {
			t.Errorf("R2: Feed wrote into what it was given: %q", whole)
		}
		spoil(whole[i : i+3])
		if i > 0 {
			s.Take(1)
			s.Back(1)
		}
	}
	s.Feed([]byte("zz"))
	if b, ok := s.Take(14); !ok || string(b) != "abcefgijkmnozz" {
		t.Errorf("R2: %q, %v: what was fed changed with the caller's list", b, ok)
	}
}

// R2: a refused Feed leaves the list alone, too.
func TestFeedRefusedLeavesTheList(t *testing.T) {
	s, _ := chunk.New(2)
	b := []byte("abcdef")
	if e := s.Feed(b[:3]); e != api.ErrLimit || string(b) != "abcdef" || s.Total() != 0 {
		t.Errorf("P6.2: Feed = %d, the list is %q, Total = %d", e, b, s.Total())
	}
}

// R2: what was handed out may be changed and made longer by the caller.
func TestAnswersAreNew(t *testing.T) {
	p := newPair(t, 200)
	p.feed(100)
	var held [][]byte
	var want []string
	keep := func(b []byte, ok bool) {
		held, want = append(held, b), append(want, string(b))
	}
	for i := range 60 {
		keep(p.peek(i % 7))
		keep(p.peek(p.s.Left()))
		keep(p.take(i % 3))
		keep(p.take(1))
		p.back(1)
		keep(p.take(1))
		p.feed(1)
	}
	for i := range held {
		if string(held[i]) != want[i] {
			t.Errorf("R2: answer %d changed behind later calls", i)
		}
		spoil(held[i])
		held[i] = append(held[i], 0xaa, 0xaa, 0xaa)
		for k := i + 1; k < len(held); k++ {
			if string(held[k]) != want[k] {
				t.Fatalf("R2: answer %d changed with answer %d", k, i)
			}
		}
	}
	p.back(16)
	p.wantRest()
}

// R2: a byte that is spoilt in an answer comes unspoilt when it is pushed back.
func TestBackBringsWhatWasFed(t *testing.T) {
	s, _ := chunk.New(20)
	s.Feed([]byte("abcdefgh"))
	for range 3 {
		b, _ := s.Peek(8)
		spoil(b)
		c, ok := s.Take(8)
		if !ok || !bytes.Equal(c, []byte("abcdefgh")) {
			t.Errorf("P6.6: %q, %v", c, ok)
		}
		spoil(c)
		if e := s.Back(8); e != api.OK {
			t.Errorf("P6.4: Back(8) = %d", e)
		}
	}
}

// R2: sources know nothing of one another.
func TestSourcesApart(t *testing.T) {
	p, q := newPair(t, 300), newPair(t, 90)
	for i := range 60 {
		p.feed(i % 5)
		q.feed(i % 4)
		p.take(i % 3)
		q.take(i % 6)
		p.back(i % 2)
		q.back(i % 9)
	}
	p.wantRest()
	q.wantRest()
}
