package chunk_test

import (
	"bytes"
	"fmt"
	"math"
	"strings"
	"testing"

	"calamus/api"
	"calamus/chunk"
)

// model is a source, reckoned apart: it keeps all that was fed, and a mark at each byte that has been taken once.
type model struct {
	limit int
	fed   []byte
	once  []bool
	next  int
}

func (m *model) feed(b []byte) api.Errno {
	if len(m.fed)+len(b) > m.limit {
		return api.ErrLimit
	}
	m.fed = append(m.fed, b...)
	m.once = append(m.once, make([]bool, len(b))...)
	return api.OK
}

func (m *model) peek(n int) ([]byte, bool) {
	if n < 0 || n > len(m.fed)-m.next {
		return nil, false
	}
	return m.fed[m.next : m.next+n], true
}

func (m *model) take(n int) ([]byte, bool) {
	b, ok := m.peek(n)
	for range b {
		m.once[m.next] = true
		m.next++
	}
	return b, ok
}

func (m *model) back(n int) api.Errno {
	if n < 0 {
		return api.ErrArg
	}
	if n > m.next {
		return api.ErrChunkBack
	}
	again := 0
	for _, once := range m.once[m.next-n:] {
		if !once {
			break // none behind it has been taken either
		}
		again++
	}
	if again > 16 {
		return api.ErrChunkBack
	}
	m.next -= n
	return api.OK
}

// pair does each call on a source and on its model, and holds the answers against each other.
type pair struct {
	t    *testing.T
	s    *chunk.Source
	m    model
	done []call
}

type call struct {
	name string
	n    int
}

func newPair(t *testing.T, limit int) *pair {
	t.Helper()
	s, e := chunk.New(limit)
	if e != api.OK || s == nil {
		t.Fatalf("P6.1: New(%d) = %v, %d", limit, s, e)
	}
	p := &pair{t: t, s: s, m: model{limit: limit}}
	p.wantCounts()
	return p
}

// note keeps the last calls only: they are told where one goes wrong.
func (p *pair) note(name string, n int) {
	if len(p.done) == 12 {
		p.done = p.done[1:]
	}
	p.done = append(p.done, call{name, n})
}

func (p *pair) told() string {
	var l []string
	for _, c := range p.done {
		l = append(l, fmt.Sprintf("%s(%d)", c.name, c.n))
	}
	return strings.Join(l, " ")
}

// wantCounts asks for P6.5, twice: asking changes nothing.
func (p *pair) wantCounts() {
	p.t.Helper()
	total := len(p.m.fed)
	for range 2 {
		if p.s.Left() != total-p.m.next || p.s.Total() != total {
			p.t.Errorf("P6.5: limit %d: %s: Left = %d, Total = %d, want %d, %d", p.m.limit, p.told(), p.s.Left(), p.s.Total(), total-p.m.next, total)
		}
	}
}

// part is the n bytes that stand at place from of all that is fed; bytes a few or 256 apart differ, so that none is taken for another.
func part(from, n int) []byte {
	b := make([]byte, n)
	for i := range b {
		b[i] = byte((from+i)*131 + (from+i)>>8)
	}
	return b
}

// feed feeds the next n bytes, and then spoils the list that it handed in.
func (p *pair) feed(n int) api.Errno {
	p.t.Helper()
	b := part(len(p.m.fed), n)
	p.note("Feed", n)
	want := p.m.feed(b)
	got := p.s.Feed(b)
	if got != want {
		p.t.Errorf("P6.2: limit %d: %s = %d, want %d", p.m.limit, p.told(), got, want)
	}
	spoil(b)
	p.wantCounts()
	return got
}

func (p *pair) peek(n int) ([]byte, bool) {
	p.t.Helper()
	p.note("Peek", n)
	want, is := p.m.peek(n)
	got, ok := p.s.Peek(n)
	p.wantBytes(got, ok, want, is)
	return got, ok
}

func (p *pair) take(n int) ([]byte, bool) {
	p.t.Helper()
	p.note("Take", n)
	want, is := p.m.take(n)
	got, ok := p.s.Take(n)
	p.wantBytes(got, ok, want, is)
	return got, ok
}

func (p *pair) wantBytes(got []byte, ok bool, want []byte, is bool) {
	p.t.Helper()
	if ok != is || !bytes.Equal(got, want) {
		p.t.Errorf("P6.3: limit %d: %s = %s, %v, want %s, %v", p.m.limit, p.told(), short(got), ok, short(want), is)
	}
	p.wantCounts()
}

func (p *pair) back(n int) api.Errno {
	p.t.Helper()
	p.note("Back", n)
	want := p.m.back(n)
	got := p.s.Back(n)
	if got != want {
		p.t.Errorf("P6.4: limit %d: %s = %d, want %d", p.m.limit, p.told(), got, want)
	}
	p.wantCounts()
	return got
}

// wantRest takes all that is left, and asks for what was fed.
func (p *pair) wantRest() {
	p.t.Helper()
	p.peek(p.s.Left())
	p.take(p.s.Left() + 1)
	p.take(p.s.Left())
}

func spoil(b []byte) {
	for i := range b {
		b[i] ^= 0xff
	}
}

func short(b []byte) string {
	if len(b) > 40 {
		return fmt.Sprintf("%x.. of %d", b[:40], len(b))
	}
	return fmt.Sprintf("%x", b)
}

// The table of the chapter's section 'Examples'.
func TestExamples(t *testing.T) {
	s, e := chunk.New(8)
	if e != api.OK {
		t.Fatalf("P6.1: New(8) = %d", e)
	}
	wantFeed := func(b string, want api.Errno) {
		t.Helper()
		if got := s.Feed([]byte(b)); got != want {
			t.Errorf("P6.2: Feed(%s) = %d, want %d", b, got, want)
		}
	}
	wantBytes := func(got []byte, ok bool, want string, is bool) {
		t.Helper()
		if string(got) != want || ok != is {
			t.Errorf("P6.3: %q, %v, want %q, %v", got, ok, want, is)
		}
	}
	wantTake := func(n int, want string, is bool) {
		t.Helper()
		got, ok := s.Take(n)
		wantBytes(got, ok, want, is)
	}
	wantBack := func(n int, want api.Errno) {
		t.Helper()
		if got := s.Back(n); got != want {
			t.Errorf("P6.4: Back(%d) = %d, want %d", n, got, want)
		}
	}
	wantFeed("abc", api.OK)
	wantTake(2, "ab", true)
	if s.Left() != 1 {
		t.Errorf("P6.5: Left = %d, want 1", s.Left())
	}
	wantTake(2, "", false)
	b, ok := s.Peek(1)
	wantBytes(b, ok, "c", true)
	wantFeed("def", api.OK)
	wantTake(3, "cde", true)
	wantBack(2, api.OK)
	wantTake(4, "", false)
	wantBack(17, api.ErrChunkBack)
	wantFeed("ghi", api.ErrLimit)
	if s.Total() != 6 {
		t.Errorf("P6.5: Total = %d, want 6", s.Total())
	}
	wantFeed("gh", api.OK)
	if s.Total() != 8 {
		t.Errorf("P6.5: Total = %d, want 8", s.Total())
	}
	if n, e := chunk.New(-1); n != nil || e != api.ErrArg {
		t.Errorf("P6.1: New(-1) = %v, %d", n, e)
	}
	wantTake(0, "", true)
	wantBack(-1, api.ErrArg)
	wantTake(5, "defgh", true)
}

// R3: a nil source, whatever it is asked.
func TestNil(t *testing.T) {
	var s *chunk.Source
	numbers := []int{math.MinInt, -1, 0, 1, 16, 17, 65536, math.MaxInt}
	for _, b := range [][]byte{nil, {}, {1}, make([]byte, 65537)} {
		if e := s.Feed(b); e != api.ErrNil {
			t.Errorf("R3: Feed of %d bytes = %d", len(b), e)
		}
	}
	for _, n := range numbers {
		if b, ok := s.Take(n); len(b) != 0 || ok {
			t.Errorf("R3: Take(%d) = %x, %v", n, b, ok)
		}
		if b, ok := s.Peek(n); len(b) != 0 || ok {
			t.Errorf("R3: Peek(%d) = %x, %v", n, b, ok)
		}
		if e := s.Back(n); e != api.ErrNil {
			t.Errorf("R3: Back(%d) = %d", n, e)
		}
	}
	if s.Left() != 0 || s.Total() != 0 {
		t.Errorf("R3: Left = %d, Total = %d", s.Left(), s.Total())
	}
}
