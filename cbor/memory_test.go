package cbor_test

import (
	"bytes"
	"slices"
	"testing"

	"calamus/api"
	"calamus/cbor"
	"calamus/event"
)

const sample = "\xa2\x61a\x82\x61x\xd8\x1b\x82\x61t\x42\x00\xff\x61b\xbf\x61c\xc2\x41\x0c\x61d\x7f\x62\xc3\xa9\xff\xff"

func sampleValue() api.Value {
	return record("a b", list(text("x"), tag("t", raw("\x00\xff"))), record("c d", whole("12"), text("\u00e9")))
}

// R2: what is handed in is not written into, nor its spare room, nor kept.
func TestReadKeepsNothing(t *testing.T) {
	all := []byte(sample + "spare room")
	b := all[:len(sample)]
	v, e := cbor.Read(b)
	if e != api.OK || string(all) != sample+"spare room" {
		t.Fatalf("R2: Read = %d, or writes into its argument: % x", e, all)
	}
	clear(all)
	if !same(v, sampleValue()) {
		t.Errorf("R2: Read keeps its argument: %v", v)
	}
}

func TestFeedKeepsNothing(t *testing.T) {
	for size := 1; size < 20; size++ {
		r := cbor.New()
		room := make([]byte, 40)
		var told []api.Event
		for rest := sample; rest != ""; {
			for i := range room {
				room[i] = 0xaa
			}
			n := copy(room[:size], rest)
			rest = rest[n:]
			l, e := r.Feed(room[:n])
			if e != api.OK || bytes.IndexFunc(room[size:], func(r rune) bool { return r != 0xfffd }) >= 0 {
				t.Fatalf("R2: Feed = %d, or writes into the spare room: % x", e, room)
			}
			told = append(told, l...)
			clear(room)
		}
		l, e := r.End()
		told = append(told, l...)
		want, _ := event.Flatten(sampleValue())
		if e != api.OK || !slices.Equal(told, want) {
			t.Errorf("R2: what was fed changed with the caller's list: %v, %d", told, e)
		}
	}
}

// R2: a value that is written is not changed, and its document is new.
func TestWriteMemory(t *testing.T) {
	v := sampleValue()
	b, e := cbor.Write(v)
	c, f := cbor.Write(v)
	if e != api.OK || f != api.OK || !same(v, sampleValue()) {
		t.Fatalf("R2: Write = %d, %d, or writes into its argument", e, f)
	}
	clear(b[:cap(b)])
	if string(c) != document(v) || !same(v, sampleValue()) {
		t.Errorf("R2: two answers of Write share memory")
	}
}

// R2: events that are handed out may be changed and made longer by the caller.
func TestEventsAreNew(t *testing.T) {
	r := cbor.New()
	var kept []api.Event
	for i := range len(sample) {
		l, e := r.Feed([]byte{sample[i]})
		if e != api.OK {
			t.Fatalf("P8.3: Feed = %d", e)
		}
		kept = append(kept, l...)
		clear(l[:cap(l)])
		_ = append(l, api.Event{Kind: api.EvEnd})
	}
	l, _ := r.End()
	kept = append(kept, l...)
	if v, e := event.Build(kept); e != api.OK || !same(v, sampleValue()) {
		t.Errorf("R2: what was told changed with the caller's list: %v, %d", v, e)
	}
}

// R2: lists within one answer of Read share no memory, nor do two answers.
func TestValuesAreNew(t *testing.T) {
	v, _ := cbor.Read([]byte(sample))
	w, _ := cbor.Read([]byte(sample))
	for i := range v.List {
		_ = append(v.List[i].List, text("more"), text("more"))
		_ = append(v.List[i].Names, "more", "more")
	}
	_ = append(v.Names, "more")
	if !same(v, sampleValue()) {
		t.Errorf("R2: lists of one answer share memory")
	}
	clear(v.List[1].List)
	clear(v.List)
	clear(v.Names)
	if !same(w, sampleValue()) {
		t.Errorf("R2: two answers of Read share memory")
	}
}

// R2: readers know nothing of one another.
func TestReadersApart(t *testing.T) {
	a, b, c := cbor.New(), cbor.New(), cbor.New()
	a.Feed([]byte(x("82c4821901910161")))
	b.Feed([]byte{0x1c})
	l, e := c.Feed([]byte("\xa1\x61a\x01"))
	m, f := c.End()
	want, _ := event.Flatten(record("a", whole("1")))
	if e != api.OK || f != api.OK || !slices.Equal(append(l, m...), want) {
		t.Errorf("R2: %v, %v, %d, %d", l, m, e, f)
	}
	if _, e := a.Feed([]byte("a")); e != api.OK {
		t.Errorf("R2: Feed = %d", e)
	}
	if _, e := a.End(); e != api.ErrLimit {
		t.Errorf("R2: End = %d", e)
	}
}
