package scribe_test

import (
	"strings"
	"testing"

	"calamus/api"
	"calamus/scribe"
)

var null = api.Value{Kind: api.KindNull}

// layOut is a layer-out that writes the parts, one by one, of whatever value.
func layOut(parts ...string) func(*scribe.Scribe, api.Value) {
	return func(s *scribe.Scribe, v api.Value) {
		for _, p := range parts {
			s.Put(p)
		}
	}
}

func TestWrite(t *testing.T) {
	if b, e := scribe.Write(null, layOut("a", "", "bc")); string(b) != "abc" || e != api.OK {
		t.Errorf("Write = %q, %d", b, e)
	}
	b, e := scribe.Write(api.Value{Kind: api.KindText, Text: "x"}, func(s *scribe.Scribe, v api.Value) { s.Put(v.Text) })
	if string(b) != "x" || e != api.OK {
		t.Errorf("Write = %q, %d", b, e)
	}
}

// What is no value, or beyond the limits, is not laid out.
func TestRefused(t *testing.T) {
	never := func(*scribe.Scribe, api.Value) { t.Error("it is laid out") }
	for _, c := range []struct {
		v    api.Value
		want api.Errno
	}{
		{api.Value{}, api.ErrValueForm}, {api.Value{Kind: api.KindNull, Text: "a"}, api.ErrValueForm}, {api.Value{Kind: api.KindText, Text: strings.Repeat("a", 4097)}, api.ErrLimit},
	} {
		if b, e := scribe.Write(c.v, never); len(b) > 0 || e != c.want {
			t.Errorf("Write = %q, %d, want %d", b, e, c.want)
		}
	}
}

// A document has at most 65536 bytes, wherever the last ones stand.
func TestLong(t *testing.T) {
	for n := 65500; n < 65600; n++ {
		for _, last := range []int{0, 1, 2, 36, 100, n} {
			s := strings.Repeat("a", n)
			b, e := scribe.Write(null, layOut(s[:n-last], s[n-last:], ""))
			if n <= 65536 && (string(b) != s || e != api.OK) || n > 65536 && (len(b) > 0 || e != api.ErrLimit) {
				t.Errorf("%d bytes: %d bytes, %d", n, len(b), e)
			}
		}
	}
}

func TestFixed(t *testing.T) {
	for width, want := range []string{"", "\x08", "\x07\x08", "\x06\x07\x08", "\x05\x06\x07\x08", "\x04\x05\x06\x07\x08", "\x03\x04\x05\x06\x07\x08", "\x02\x03\x04\x05\x06\x07\x08", "\x01\x02\x03\x04\x05\x06\x07\x08"} {
		b, e := scribe.Write(null, func(s *scribe.Scribe, v api.Value) { s.Fixed(0x0102030405060708, width) })
		if string(b) != want || e != api.OK {
			t.Errorf("Fixed of %d bytes: % x, %d", width, b, e)
		}
	}
}

// A part is laid out by itself, and is no longer than a document may be.
func TestPart(t *testing.T) {
	for n := 65530; n < 65540; n++ {
		long := strings.Repeat("a", n)
		b, e := scribe.Write(null, func(s *scribe.Scribe, v api.Value) {
			s.Put("x")
			p := scribe.Part(func(s *scribe.Scribe) {
				s.Put(scribe.Part(func(s *scribe.Scribe) { s.Put(long) }))
			})
			if p != long {
				t.Errorf("a part of %d bytes has %d", n, len(p))
			}
			s.Put(p[:3])
		})
		if n <= 65536 && (string(b) != "xaaa" || e != api.OK) || n > 65536 && (len(b) > 0 || e != api.ErrLimit) {
			t.Errorf("a part of %d bytes: %q, %d", n, b, e)
		}
	}
}
