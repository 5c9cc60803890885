package pack_test

import (
	"bytes"
	"slices"
	"testing"

	"calamus/api"
	"calamus/event"
	"calamus/pack"
)

const sample = "\x82\xa1a\x92\xa1x\x81\xa4$tag\x92\xa1t\xc4\x02\x00\xff\xa1b\xde\x00\x02\xa1c\xd5\x0112\xd9\x01d\xa2\xc3\xa9"

func sampleValue() api.Value {
	return record("a b", list(text("x"), tag("t", raw("\x00\xff"))), record("c d", whole("12"), text("\u00e9")))
}

// R2: what is handed in is not written into, nor its spare room, nor kept.
func TestReadKeepsNothing(t *testing.T) {
	all := []byte(sample + "spare room")
	b := all[:len(sample)]
	v, e := pack.Read(b)
	if e != api.OK || string(all) != sample+"spare room" {
		t.Fatalf("R2: Read = %d, or writes into its argument: % x", e, all)
	}
	clear(all)
	if !same(v, sampleValue()) {
		t.Errorf("R2: Read keeps its argument: %v", v)
	}
}

func TestFeedKeepsNothing(t *testing.T) {
	for size := 1; size < 20; size++ {
		r := pack.New()
		room := make([]byte, 40)
		var told []api.Event
		for rest := sample; rest != ""; {
			for i := range room {
				room[i] = 0xaa
			}
			n := copy(room[:size], rest)
			rest = rest[n:]
			l, e := r.Feed(room[:n])
			if e != api.OK || bytes.IndexFunc(room[size:], func(r rune) bool { return r != 0xfffd }) >= 0 {
				t.Fatalf("R2: Feed = %d, or writes into the spare room: % x", e, room)
			}
			told = append(told, l...)
			clear(room)
		}
		l, e := r.End()
		told = append(told, l...)
		want, _ := event.Flatten(sampleValue())
		if e != api.OK || !slices.Equal(told, want) {
			t.Errorf("R2: what was fed changed with the caller's list: %v, %d", told, e)
		}
	}
}

// R2: a value that is written is not changed, and its document is new.
func TestWriteMemory(t *testing.T) {
	v := sampleValue()
	b, e := pack.Write(v)
	c, f := pack.Write(v)
	if e != api.OK || f != api.OK || !same(v, sampleValue()) {
		t.Fatalf("R2: Write = %d, %d, or writes into its argument", e, f)
	}
	clear(b[:cap(b)])
	if string(c) != document(v) || !same(v, sampleValue()) {
		t.Errorf("R2: two answers of Write share memory")
	}
}

// R2: events that are handed out may be changed and made longer by the caller.
func TestEventsAreNew(t *testing.T) {
	r := pack.New()
	var kept []api.Event
	for i := range len(sample) {
		l, e := r.Feed([]byte{sample[i]})
		if e != api.OK {
			t.Fatalf("P9.3: Feed = %d", e)
		}
		kept = append(kept, l...)
		clear(l[:cap(l)])
		_ = append(l, api.Event{Kind: api.EvEnd})
	}
	l, _ := r.End()
	kept = append(kept, l...)
	if v, e := event.Build(kept); e != api.OK || !same(v, sampleValue()) {
		t.Errorf("R2: what was told changed with the caller's list: %v, %d", v, e)
	}
}

// R2: lists within one answer of Read share no memory, nor do two answers.
func TestValuesAreNew(t *testing.T) {
	v, _ := pack.Read([]byte(sample))
	w, _ := pack.Read([]byte(sample))
	for i := range v.List {
		_ = append(v.List[i].List, text("more"), text("more"))
		_ = append(v.List[i].Names, "more", "more")
	}
	_ = append(v.Names, "more")
	if !same(v, sampleValue()) {
		t.Errorf("R2: lists of one answer share memory")
	}
	clear(v.List[1].List)
	clear(v.List)
	clear(v.Names)
	if !same(w, sampleValue()) {
		t.Errorf("R2: two answers of Read share memory")
	}
}

// R2: readers know nothing of one another.
func TestReadersApart(t *testing.T) {
	a, b, c := pack.New(), pack.New(), pack.New()
	a.Feed([]byte("\x92\xc7\x05\x011e401\xa1"))
	b.Feed([]byte{0xc1})
	l, e := c.Feed([]byte("\x81\xa1a\x01"))
	m, f := c.End()
	want, _ := event.Flatten(record("a", whole("1")))
	if e != api.OK || f != api.OK || !slices.Equal(append(l, m...), want) {
		t.Errorf("R2: %v, %v, %d, %d", l, m, e, f)
	}
	if _, e := a.Feed([]byte("a")); e != api.OK {
		t.Errorf("R2: Feed = %d", e)
	}
	if _, e := a.End(); e != api.ErrLimit {
		t.Errorf("R2: End = %d", e)
	}
}
