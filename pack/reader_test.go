package pack_test

import (
	"math/rand"
	"slices"
	"strings"
	"testing"

	"calamus/api"
	"calamus/event"
	"calamus/pack"
)

// shortDocuments are documents, and what is none, of at most 16 bytes.
func shortDocuments() []string {
	return []string{
		"", "\x00", "\xff", "\xcc", "\xcd\x03\xe8", "\xcf\x00\x00\x00\x00\x00\x00\x00\x05", "\xd3\x80\x00\x00\x00\x00\x00\x00\x00", "\xd1\xff\x7f", "\x92\xcd\x03\xe8\xc0", "\x92\x00", "\xdc\x00\x01\xcc\x01", "\xc4\x02\x00\xff", "\xc5\x00\x01a", "\xa2\xc3\xa9", "\xa2\xc3\x28", "\xd9\x04\xf0\x9f\x98\x80", "\xdb\x00\x00\x00\x02ab", "\x82\xa1a\x00\xa1b\xc3", "\x82\xa1a\x00\xa1a\x00", "\x82\xa3$$a\x00\xa1$\x90", "\x82\xa3$$a\x00\xa2$a\x00", "\x81\xa2$x\x00", "\xde\x00\x01\xd9\x01a\x90", "\xdf\x00\x00\x00\x00", "\x81\xa4$tag\x92\xa1t\xc0", "\x81\xa4$tag\x92\xa1t\x91\x80", "\x81\xa4$tag\xdc\x00\x02\xa0\xc0", "\x81\xa4$tag\x93\xa1t\xc0", "\x82\xa4$tag\x92\xa1t\xc0", "\x81\xa4$tag\x81\xa1t\xc0", "\xd4\x017", "\xd5\x01-7", "\xd6\x011.50", "\xd7\x011e400000", "\xc7\x03\x011.5", "\xc8\x00\x01\x017", "\xc9\x00\x00\x00\x01\x017", "\xd4\x027", "\xd4\x01x", "\xc7\x00\x01", huge, huge + "\x00", "\x92" + huge + "\xc1", "\x92" + huge + "\xa1a", "\xca\x3f\x80\x00\x00", "\xcb\x3f\xb9\x99\x99\x99\x99\x99\x9a", "\xc1", "\xc0\xc0", "\xdc\x01\x01\x00", "\x90", "\x80", "\x93\x90\x91\x91\x81\xa0\xc4\x00\x80", "\x92\x81\xa0\x80\xa1$",
	}
}

// P9.3 of all cuttings into parts.
func TestAllCuttings(t *testing.T) {
	for _, s := range shortDocuments() {
		v, e := pack.Read([]byte(s))
		for bits := range 1 << max(len(s)-1, 0) {
			askParts(t, s, v, e, cuts(len(s), bits))
		}
	}
}

// longDocuments are documents of all kinds, and the same with a fault.
func longDocuments() []string {
	r := rand.New(rand.NewSource(94))
	var l []string
	for range 20 {
		s := loose(r, someValue(r, 4))
		if len(s) < 400 {
			l = append(l, s, s+"\xc1", s[:len(s)-1])
		}
	}
	for _, c := range over() {
		if len(c.just)+len(c.over) < 500 {
			l = append(l, c.just, c.over, "\x92"+c.over+"\xc1")
		}
	}
	return l
}

// P9.3 of longer ones: each place to cut at, and each size of parts.
func TestEachCut(t *testing.T) {
	for _, s := range longDocuments() {
		v, e := pack.Read([]byte(s))
		for at := 1; at < len(s); at++ {
			askParts(t, s, v, e, []int{at, len(s)})
			askParts(t, s, v, e, []int{at})
		}
	}
}

// P9.3 of some values' documents, in some parts.
func TestSomeParts(t *testing.T) {
	r := rand.New(rand.NewSource(95))
	for range 2000 {
		v := someValue(r, 6)
		var sizes []int
		for range 1 + r.Intn(5) {
			sizes = append(sizes, 1+r.Intn(20))
		}
		askParts(t, loose(r, v), v, api.OK, sizes)
	}
}

// P9.3: empty parts change nothing, wherever they come.
func TestEmptyParts(t *testing.T) {
	for _, s := range append(shortDocuments(), longDocuments()...) {
		_, want := pack.Read([]byte(s))
		r := pack.New()
		var all []api.Event
		got := api.OK
		feed := func(b []byte) {
			l, e := r.Feed(b)
			all = append(all, l...)
			got = max(got, e)
		}
		for i := range len(s) {
			feed(nil)
			feed([]byte{})
			feed([]byte{s[i]})
			feed([]byte(s[i:])[:0])
		}
		l, e := r.End()
		all = append(all, l...)
		if got = max(got, e); got != want {
			t.Errorf("P9.3: %s with empty parts: %d, want %d", short(s), got, want)
		}
		if whole, _ := readParts(t, s, []int{1}); !slices.Equal(all, whole) {
			t.Errorf("P9.3: %s with empty parts: %v, want %v", short(s), all, whole)
		}
	}
}

// P9.3: what was told at any time begins a value, also where nothing is refused yet.
func TestToldSoFar(t *testing.T) {
	r := rand.New(rand.NewSource(96))
	docs := append(shortDocuments(), longDocuments()...)
	for range 300 {
		docs = append(docs, loose(r, someValue(r, 6)))
	}
	for _, s := range docs {
		reader := pack.New()
		var all []api.Event
		for i := range len(s) {
			l, e := reader.Feed([]byte{s[i]})
			if e != api.OK {
				break
			}
			if all = append(all, l...); len(l) == 0 {
				continue
			}
			if _, f := event.Build(all); f != api.OK && f != api.ErrEventEnd {
				t.Errorf("P9.3: %s: what was told up to byte %d begins no value: %d", short(s), i, f)
			}
		}
	}
}

// P9.3: a reader that has ended well takes nothing more, not even nothing; one that was refused says the same for good.
func TestEnded(t *testing.T) {
	for s, want := range map[string]api.Errno{"\x00": api.ErrPack, "\x90": api.ErrPack, "": api.ErrPack, "\x91": api.ErrPack, huge: api.ErrLimit, "\x91\xc1": api.ErrPack, strings.Repeat("\x91", 17): api.ErrLimit} {
		for _, first := range []func(r *pack.Reader) ([]api.Event, api.Errno){
			func(r *pack.Reader) ([]api.Event, api.Errno) { return r.Feed(nil) },
			func(r *pack.Reader) ([]api.Event, api.Errno) { return r.Feed([]byte{0x00}) },
			func(r *pack.Reader) ([]api.Event, api.Errno) { return r.Feed([]byte{0xc1}) },
			(*pack.Reader).End,
		} {
			r := pack.New()
			r.Feed([]byte(s))
			r.End()
			for range 3 {
				if l, e := first(r); e != want || len(l) > 0 {
					t.Errorf("P9.3: %s, then End, then a call = %v, %d, want %d", short(s), l, e, want)
				}
			}
			askRefused(t, r, nil, want)
		}
	}
}

// P9.3: the events may come with the bytes, and none comes twice.
func TestToldOnce(t *testing.T) {
	r := pack.New()
	var all []api.Event
	for _, s := range []string{"\x92", "\x01\x81\xa1", "a", "\xa1", "x"} {
		l, e := r.Feed([]byte(s))
		if e != api.OK {
			t.Fatalf("P9.3: Feed(%x) = %d", s, e)
		}
		all = append(all, l...)
	}
	l, e := r.End()
	all = append(all, l...)
	want, _ := event.Flatten(list(whole("1"), record("a", text("x"))))
	if e != api.OK || !slices.Equal(all, want) {
		t.Errorf("P9.3: %v, %d", all, e)
	}
}

// R3: no reader at all.
func TestNoReader(t *testing.T) {
	var none *pack.Reader
	for _, b := range [][]byte{nil, {}, {0x00}, {0xc1}, []byte(strings.Repeat("\x91", 70000))} {
		if l, e := none.Feed(b); e != api.ErrNil || len(l) > 0 {
			t.Errorf("R3: Feed of none = %v, %d", l, e)
		}
		if l, e := none.End(); e != api.ErrNil || len(l) > 0 {
			t.Errorf("R3: End of none = %v, %d", l, e)
		}
	}
	if pack.New() == nil {
		t.Error("P9.3: New is none")
	}
}
