package cbor

import (
	"reflect"
	"strings"
	"testing"

	"calamus/api"
)

// A reader that has ended, well or not, keeps nothing but its answer, by its teller.
func TestNothingKept(t *testing.T) {
	for s, want := range map[string]api.Errno{"\x82\x00\xa1\x61a\x61b": api.ErrCbor, "\x83\x00\xa1\x61a\x61b": api.ErrCbor, "\x82\x00\xa1\x61a\x61b\x00": api.ErrCbor, "\x82\x00\x61\xff": api.ErrCbor, "\xc4\x82\x19\x01\x91\x01": api.ErrLimit, strings.Repeat("\x82\x61a", 30): api.ErrLimit, "\xc2\x49\x01": api.ErrCbor} {
		r := New()
		r.Feed([]byte(s))
		r.End()
		if _, e := r.End(); e != want || !reflect.DeepEqual(*r, Reader{out: r.out}) {
			t.Errorf("P8.3: behind % x: %+v, %d", s, *r, e)
		}
	}
}

// A reader keeps what the value that is open needs: neither texts, numbers nor events that were told.
func TestLittleKept(t *testing.T) {
	r := New()
	r.Feed([]byte("\x9f"))
	for range 14 {
		s := "\x79\x10\x00" + strings.Repeat("a", 4096) + "\x5f\x59\x01\x00" + strings.Repeat("\xff", 256) + "\xff" + "\xc2\x49" + strings.Repeat("\x01", 9) + "\xc4\x9f\x20\xc2\x41\x05\xff" + "\xd8\x1b\x9f\x61t\x80\xff"
		if _, e := r.Feed([]byte(s)); e != api.OK {
			t.Fatalf("P8.3: Feed = %d", e)
		}
		if !reflect.DeepEqual(r.row, row{}) || r.number != (number{}) || len(r.open) != 1 {
			t.Errorf("P8.3: kept: %+v", r)
		}
	}
}

// What is too long is refused as it comes: no more is held of it than may be needed. Of what says ahead how long it is nothing is held.
func TestLittleHeld(t *testing.T) {
	padded := "\x8f" + strings.Repeat("\x00", 14) + "\x81\x83\x00"
	for _, s := range []string{"\x99\x01\x01", "\xb9\x01\x01", "\x79\x10\x01", "\x59\x10\x01", "\x7f\x79\x10\x01", "\x9b\xff\xff\xff\xff\xff\xff\xff\xff", "\x7b\xff\xff\xff\xff\xff\xff\xff\xff", "\xa1\x79\x10\x01"} {
		r := New()
		if _, e := r.Feed([]byte(padded + s[:len(s)-1])); e != api.OK {
			t.Errorf("P8.3: % x without its last byte: Feed = %d", s, e)
		}
		if _, e := r.Feed([]byte(s[len(s)-1:])); e != api.ErrLimit {
			t.Errorf("P8.3: % x: Feed = %d", s, e)
		}
	}
	r := New()
	r.Feed([]byte(padded + "\x5f"))
	for range 4096 {
		if _, e := r.Feed([]byte("\x41a")); e != api.OK {
			t.Fatalf("P8.3: Feed = %d", e)
		}
	}
	if _, e := r.Feed([]byte("\x41")); e != api.ErrLimit {
		t.Errorf("P8.3: 4097 bytes in parts: Feed = %d", e)
	}
	r = New()
	r.Feed([]byte(padded + "\xc2\x5a\x00\x00\xf0\x00"))
	for range 50000 {
		if _, e := r.Feed([]byte{0}); e != api.OK || len(r.row.held) > 0 {
			t.Fatalf("P8.3: Feed = %d, held: %d", e, len(r.row.held))
		}
	}
	r.Feed([]byte(strings.Repeat("\x01", mostBytes)))
	if _, e := r.Feed([]byte{0}); e != api.ErrLimit {
		t.Errorf("P8.3: a number of more than %d bytes: Feed = %d", mostBytes, e)
	}
}
