package cbor_test

import (
	"math/rand"
	"slices"
	"strings"
	"testing"

	"calamus/api"
	"calamus/cbor"
	"calamus/event"
)

// shortDocuments are documents, and what is none, of at most 14 bytes.
func shortDocuments() []string {
	var l []string
	for _, digits := range []string{
		"", "00", "18", "19 03 e8", "1b 00 00 00 00 00 00 00 05", "3b ff ff ff ff ff ff ff ff", "82 19 03 e8 f6", "82 00", "9f 18 01 ff", "5f 41 00 42 01 02 ff", "5f 5f ff ff", "7f 61 61 62 c3 a9 60 ff", "7f 61 c3 61 a9 ff", "62 c3 a9", "62 c3 28", "64 f0 9f 98 80", "a2 61 61 00 61 62 f5", "a2 61 61 00 61 61 00", "bf 61 61 80 7f 61 62 ff a0 ff", "bf 61 61 ff", "c2 40", "c3 43 00 01 00", "c2 5f 41 01 41 00 ff", "c2 5f 60 ff", "c4 82 20 0f", "c4 9f 21 c3 41 63 ff", "c4 82 19 01 91 01", "c4 82 19 01 91 01 00", "82 c4 82 19 01 91 01 1c", "9f c4 82 19 01 91 01 00 ff", "c4 82 19 01 91 00", "d8 1b 82 61 74 f6", "d9 00 1b 9f 7f 61 74 ff 80 ff", "d8 1b 83 61 74 f6", "d8 1b 82 61 74 9f 5f ff ff", "f9 3c 00", "fa 7f 80 00 01", "fb 3f b9 99 99 99 99 99 9a", "f8 14", "f6 f6", "99 01 01 00", "80", "a0", "ff", "82 80 81 81 a1 60 40", "c0 00",
	} {
		l = append(l, x(digits))
	}
	return l
}

// P8.3 of all cuttings into parts.
func TestAllCuttings(t *testing.T) {
	for _, s := range shortDocuments() {
		v, e := cbor.Read([]byte(s))
		for bits := range 1 << max(len(s)-1, 0) {
			askParts(t, s, v, e, cuts(len(s), bits))
		}
	}
}

// longDocuments are documents of all kinds, and the same with a fault.
func longDocuments() []string {
	r := rand.New(rand.NewSource(83))
	var l []string
	for range 20 {
		s := loose(r, someValue(r, 4))
		if len(s) < 400 {
			l = append(l, s, s+"\xff", s[:len(s)-1])
		}
	}
	for _, c := range over() {
		if len(c.just)+len(c.over) < 500 {
			l = append(l, c.just, c.over, "\x82"+c.over+"\x1c")
		}
	}
	return l
}

// P8.3 of longer ones: each place to cut at, and each size of parts.
func TestEachCut(t *testing.T) {
	for _, s := range longDocuments() {
		v, e := cbor.Read([]byte(s))
		for at := 1; at < len(s); at++ {
			askParts(t, s, v, e, []int{at, len(s)})
			askParts(t, s, v, e, []int{at})
		}
	}
}

// P8.3 of some values' documents, in some parts.
func TestSomeParts(t *testing.T) {
	r := rand.New(rand.NewSource(84))
	for range 2000 {
		v := someValue(r, 6)
		var sizes []int
		for range 1 + r.Intn(5) {
			sizes = append(sizes, 1+r.Intn(20))
		}
		askParts(t, loose(r, v), v, api.OK, sizes)
	}
}

// P8.3: empty parts change nothing, wherever they come.
func TestEmptyParts(t *testing.T) {
	for _, s := range append(shortDocuments(), longDocuments()...) {
		_, want := cbor.Read([]byte(s))
		r := cbor.New()
		var all []api.Event
		got := api.OK
		feed := func(b []byte) {
			l, e := r.Feed(b)
			all = append(all, l...)
			got = max(got, e)
		}
		for i := range len(s) {
			feed(nil)
			feed([]byte{})
			feed([]byte{s[i]})
			feed([]byte(s[i:])[:0])
		}
		l, e := r.End()
		all = append(all, l...)
		if got = max(got, e); got != want {
			t.Errorf("P8.3: %s with empty parts: %d, want %d", short(s), got, want)
		}
		if whole, _ := readParts(t, s, []int{1}); !slices.Equal(all, whole) {
			t.Errorf("P8.3: %s with empty parts: %v, want %v", short(s), all, whole)
		}
	}
}

// P8.3: what was told at any time begins a value, also where nothing is refused yet.
func TestToldSoFar(t *testing.T) {
	r := rand.New(rand.NewSource(85))
	docs := append(shortDocuments(), longDocuments()...)
	for range 300 {
		docs = append(docs, loose(r, someValue(r, 6)))
	}
	for _, s := range docs {
		reader := cbor.New()
		var all []api.Event
		for i := range len(s) {
			l, e := reader.Feed([]byte{s[i]})
			if e != api.OK {
				break
			}
			if all = append(all, l...); len(l) == 0 {
				continue
			}
			if _, f := event.Build(all); f != api.OK && f != api.ErrEventEnd {
				t.Errorf("P8.3: %s: what was told up to byte %d begins no value: %d", short(s), i, f)
			}
		}
	}
}

// P8.3: a reader that has ended well takes nothing more, not even nothing; one that was refused says the same for good.
func TestEnded(t *testing.T) {
	for s, want := range map[string]api.Errno{"\x00": api.ErrCbor, "\x80": api.ErrCbor, "": api.ErrCbor, "\x81": api.ErrCbor, x("c48219019101"): api.ErrLimit, "\x81\x1c": api.ErrCbor, strings.Repeat("\x81", 17): api.ErrLimit} {
		for _, first := range []func(r *cbor.Reader) ([]api.Event, api.Errno){
			func(r *cbor.Reader) ([]api.Event, api.Errno) { return r.Feed(nil) },
			func(r *cbor.Reader) ([]api.Event, api.Errno) { return r.Feed([]byte{0x00}) },
			func(r *cbor.Reader) ([]api.Event, api.Errno) { return r.Feed([]byte{0xff}) },
			(*cbor.Reader).End,
		} {
			r := cbor.New()
			r.Feed([]byte(s))
			r.End()
			for range 3 {
				if l, e := first(r); e != want || len(l) > 0 {
					t.Errorf("P8.3: %s, then End, then a call = %v, %d, want %d", short(s), l, e, want)
				}
			}
			askRefused(t, r, nil, want)
		}
	}
}

// P8.3: the events may come with the bytes, and none comes twice.
func TestToldOnce(t *testing.T) {
	r := cbor.New()
	var all []api.Event
	for _, s := range []string{"\x9f", "\x01\xa1\x61", "a", "\x61x", "\xff"} {
		l, e := r.Feed([]byte(s))
		if e != api.OK {
			t.Fatalf("P8.3: Feed(%x) = %d", s, e)
		}
		all = append(all, l...)
	}
	l, e := r.End()
	all = append(all, l...)
	want, _ := event.Flatten(list(whole("1"), record("a", text("x"))))
	if e != api.OK || !slices.Equal(all, want) {
		t.Errorf("P8.3: %v, %d", all, e)
	}
}

// R3: no reader at all.
func TestNoReader(t *testing.T) {
	var none *cbor.Reader
	for _, b := range [][]byte{nil, {}, {0x00}, {0xff}, []byte(strings.Repeat("\x40", 70000))} {
		if l, e := none.Feed(b); e != api.ErrNil || len(l) > 0 {
			t.Errorf("R3: Feed of none = %v, %d", l, e)
		}
		if l, e := none.End(); e != api.ErrNil || len(l) > 0 {
			t.Errorf("R3: End of none = %v, %d", l, e)
		}
	}
	if cbor.New() == nil {
		t.Error("P8.3: New is none")
	}
}
