package json

import (
	"reflect"
	"strings"
	"testing"

	"calamus/api"
)

// A reader that has ended, well or not, keeps nothing but its answer, by its teller.
func TestNothingKept(t *testing.T) {
	for s, want := range map[string]api.Errno{`[1,{"a":"b"}]`: api.ErrJson, `[1,{"a":"b"}`: api.ErrJson, `[1,{"a":"b"]`: api.ErrJson, `[1e999]`: api.ErrLimit, strings.Repeat(`["a",`, 30): api.ErrLimit} {
		r := New()
		r.Feed([]byte(s))
		r.End()
		if _, e := r.End(); e != want || !reflect.DeepEqual(*r, Reader{out: r.out}) {
			t.Errorf("P7.3: behind %s: %+v, %d", s, *r, e)
		}
	}
}

// A reader keeps what the value that is open needs: neither texts nor events that were told.
func TestLittleKept(t *testing.T) {
	r := New()
	r.Feed([]byte("["))
	for range 14 {
		if _, e := r.Feed([]byte(`"` + strings.Repeat("a", 4096) + `",{"$bytes":"` + strings.Repeat("0", 300) + `"},123,`)); e != api.OK {
			t.Fatalf("P7.3: Feed = %d", e)
		}
		if r.word != nil || r.quoted.held != nil || len(r.open) != 1 {
			t.Errorf("P7.3: kept: %+v", r)
		}
	}
}

// A text, and a number, that are too long are refused as they come: no more is held of them than may be needed.
func TestLittleHeld(t *testing.T) {
	for begin, most := range map[string]int{`"`: maxQuoted, `{"$bytes":"`: maxQuoted, `["a","`: maxQuoted, ``: api.MaxNumLen, `[`: api.MaxNumLen, `[1,`: api.MaxNumLen} {
		r := New()
		r.Feed([]byte(begin))
		if _, e := r.Feed([]byte(strings.Repeat("1", most))); e != api.OK {
			t.Errorf("P7.3: %s and %d bytes: Feed = %d", begin, most, e)
		}
		if _, e := r.Feed([]byte("1")); e != api.ErrLimit {
			t.Errorf("P7.3: %s and %d bytes and one more: Feed = %d", begin, most, e)
		}
	}
}
