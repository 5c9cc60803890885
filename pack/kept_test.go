package pack

import (
	"reflect"
	"strings"
	"testing"

	"calamus/api"
)

// A reader that has ended, well or not, keeps nothing but its answer, by its teller.
func TestNothingKept(t *testing.T) {
	for s, want := range map[string]api.Errno{"\x92\x00\x81\xa1a\xa1b": api.ErrPack, "\x93\x00\x81\xa1a\xa1b": api.ErrPack, "\x92\x00\x81\xa1a\xa1b\x00": api.ErrPack, "\x92\x00\xa1\xff": api.ErrPack, "\xc7\x05\x011e401": api.ErrLimit, strings.Repeat("\x92\xa1a", 30): api.ErrLimit, "\xc7\x09\x011": api.ErrPack, "\xcf\x01": api.ErrPack} {
		r := New()
		r.Feed([]byte(s))
		r.End()
		if _, e := r.End(); e != want || !reflect.DeepEqual(*r, Reader{out: r.out}) {
			t.Errorf("P9.3: behind % x: %+v, %d", s, *r, e)
		}
	}
}

// A reader keeps what the value that is open needs: neither texts nor numbers that were told.
func TestLittleKept(t *testing.T) {
	r := New()
	r.Feed([]byte("\xdc\x00\xff"))
	for range 14 {
		s := "\xda\x10\x00" + strings.Repeat("a", 4096) + "\xc5\x01\x00" + strings.Repeat("\xff", 256) + "\xc7\x03\x011.5" + "\xcf\x01\x01\x01\x01\x01\x01\x01\x01" + "\x81\xa4$tag\x92\xa1t\x90" + "\x81\xa2$$\x90"
		if _, e := r.Feed([]byte(s)); e != api.OK {
			t.Fatalf("P9.3: Feed = %d", e)
		}
		if !reflect.DeepEqual(r.row, row{}) || len(r.open) != 1 {
			t.Errorf("P9.3: kept: %+v", r)
		}
	}
}

// What says ahead that it is too long is refused then: nothing is held of it.
func TestLittleHeld(t *testing.T) {
	padded := "\x9f" + strings.Repeat("\x00", 14) + "\x91\x93\x00"
	for _, s := range []string{"\xdc\x01\x01", "\xdd\xff\xff\xff\xff", "\xde\x01\x01", "\xdf\xff\xff\xff\xff", "\xda\x10\x01", "\xdb\xff\xff\xff\xff", "\xc5\x10\x01", "\xc6\xff\xff\xff\xff", "\xc8\x02\x01\x01", "\xc9\xff\xff\xff\xff\x01", "\x81\xd9\x42", "\x81\xda\x10\x00", "\x82\xa1a\x00\xd9\x41", "\x81\xa4$tag\x92\xd9\x41"} {
		r := New()
		if _, e := r.Feed([]byte(padded + s[:len(s)-1])); e != api.OK {
			t.Errorf("P9.3: % x without its last byte: Feed = %d", s, e)
		}
		if _, e := r.Feed([]byte(s[len(s)-1:])); e != api.ErrLimit {
			t.Errorf("P9.3: % x: Feed = %d", s, e)
		}
	}
}
