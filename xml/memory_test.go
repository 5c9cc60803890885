package xml_test

import (
	"bytes"
	"slices"
	"testing"

	"calamus/api"
	"calamus/event"
	"calamus/xml"
)

const sample = `<record><field name="a"><list> <text>x</text><tag name="t"><bytes>00ff</bytes></tag></list></field><field name="b"> <record><field name="c"><num>12</num></field><field name="d"><text>&#xe9;</text></field></record></field></record>`

func sampleValue() api.Value {
	return record("a b", list(text("x"), tag("t", raw("\x00\xff"))), record("c d", whole("12"), text("\u00e9")))
}

// R2: what is handed in is not written into, nor its spare room, nor kept.
func TestReadKeepsNothing(t *testing.T) {
	all := []byte(sample + "spare room")
	b := all[:len(sample)]
	v, e := xml.Read(b)
	if e != api.OK || string(all) != sample+"spare room" {
		t.Fatalf("R2: Read = %d, or writes into its argument: %s", e, all)
	}
	clear(all)
	if !same(v, sampleValue()) {
		t.Errorf("R2: Read keeps its argument: %v", v)
	}
}

func TestFeedKeepsNothing(t *testing.T) {
	for size := 1; size < 20; size++ {
		r := xml.New()
		room := make([]byte, 40)
		var told []api.Event
		for rest := sample; rest != ""; {
			for i := range room {
				room[i] = 0xaa
			}
			n := copy(room[:size], rest)
			rest = rest[n:]
			l, e := r.Feed(room[:n])
			if e != api.OK || bytes.IndexFunc(room[size:], func(r rune) bool { return r != 0xfffd }) >= 0 {
				t.Fatalf("R2: Feed = %d, or writes into the spare room: %s", e, room)
			}
			told = append(told, l...)
			clear(room)
		}
		l, e := r.End()
		told = append(told, l...)
		want, _ := event.Flatten(sampleValue())
		if e != api.OK || !slices.Equal(told, want) {
			t.Errorf("R2: what was fed changed with the caller's list: %v, %d", told, e)
		}
	}
}

// R2: a value that is written is not changed, and its document is new.
func TestWriteMemory(t *testing.T) {
	v := sampleValue()
	b, e := xml.Write(v)
	c, f := xml.Write(v)
	if e != api.OK || f != api.OK || !same(v, sampleValue()) {
		t.Fatalf("R2: Write = %d, %d, or writes into its argument", e, f)
	}
	clear(b[:cap(b)])
	if string(c) != document(v) || !same(v, sampleValue()) {
		t.Errorf("R2: two answers of Write share memory")
	}
}

// R2: events that are handed out may be changed and made longer by the caller.
func TestEventsAreNew(t *testing.T) {
	r := xml.New()
	var kept []api.Event
	for i := range len(sample) {
		l, e := r.Feed([]byte{sample[i]})
		if e != api.OK {
			t.Fatalf("P10.3: Feed = %d", e)
		}
		kept = append(kept, l...)
		clear(l[:cap(l)])
		_ = append(l, api.Event{Kind: api.EvEnd})
	}
	l, _ := r.End()
	kept = append(kept, l...)
	if v, e := event.Build(kept); e != api.OK || !same(v, sampleValue()) {
		t.Errorf("R2: what was told changed with the caller's list: %v, %d", v, e)
	}
}

// R2: lists within one answer of Read share no memory, nor do two answers.
func TestValuesAreNew(t *testing.T) {
	v, _ := xml.Read([]byte(sample))
	w, _ := xml.Read([]byte(sample))
	for i := range v.List {
		_ = append(v.List[i].List, text("more"), text("more"))
		_ = append(v.List[i].Names, "more", "more")
	}
	_ = append(v.Names, "more")
	if !same(v, sampleValue()) {
		t.Errorf("R2: lists of one answer share memory")
	}
	clear(v.List[1].List)
	clear(v.List)
	clear(v.Names)
	if !same(w, sampleValue()) {
		t.Errorf("R2: two answers of Read share memory")
	}
}

// R2: readers know nothing of one another.
func TestReadersApart(t *testing.T) {
	a, b, c := xml.New(), xml.New(), xml.New()
	a.Feed([]byte("<num>1e999</nu"))
	b.Feed([]byte("x"))
	l, e := c.Feed([]byte(`<record><field name="a"><num>1</num></field></record>`))
	m, f := c.End()
	want, _ := event.Flatten(record("a", whole("1")))
	if e != api.OK || f != api.OK || !slices.Equal(append(l, m...), want) {
		t.Errorf("R2: %v, %v, %d, %d", l, m, e, f)
	}
	if _, e := a.Feed([]byte("m>")); e != api.OK {
		t.Errorf("R2: Feed = %d", e)
	}
	if _, e := a.End(); e != api.ErrLimit {
		t.Errorf("R2: End = %d", e)
	}
}
