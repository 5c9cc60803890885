package xml

import (
	"reflect"
	"strings"
	"testing"

	"calamus/api"
)

// A reader that has ended, well or not, keeps nothing but its answer, by its teller.
func TestNothingKept(t *testing.T) {
	for s, want := range map[string]api.Errno{`<list><record><field name="a"><text>b</text></field></record></list>`: api.ErrXml, `<list><record><field name="a"><text>b`: api.ErrXml, `<list><record><field name="a`: api.ErrXml, `<list><text>a&#x4`: api.ErrXml, `<list><text>a</te`: api.ErrXml, `<list><text>a</list>`: api.ErrXml, "<num>1e999</num>": api.ErrLimit, strings.Repeat("<list><null/>", 30): api.ErrLimit} {
		r := New()
		if _, e := r.Feed([]byte(s)); e != api.OK && !reflect.DeepEqual(*r, Reader{out: r.out}) {
			t.Errorf("P10.3: refused at %s: %+v, %d", s, *r, e)
		}
		r.End()
		if _, e := r.End(); e != want || !reflect.DeepEqual(*r, Reader{out: r.out}) {
			t.Errorf("P10.3: behind %s: %+v, %d", s, *r, e)
		}
	}
}

// A reader keeps what the value that is open needs: neither texts nor names that were told.
func TestLittleKept(t *testing.T) {
	r := New()
	r.Feed([]byte("<list>"))
	for range 14 {
		s := "<text>" + strings.Repeat("a", 4000) + "&lt;</text><bytes>" + strings.Repeat("0", 300) + `</bytes><num>123</num><record><field name="a"><tag name="t"><list></list></tag></field></record>`
		if _, e := r.Feed([]byte(s)); e != api.OK {
			t.Fatalf("P10.3: Feed = %d", e)
		}
		if len(r.mark) > 0 || !reflect.DeepEqual(r.row, row{}) || len(r.open) != 1 {
			t.Errorf("P10.3: kept: %+v", r)
		}
	}
}

// What is too long is refused as it comes: no more is held of it than may be needed.
func TestLittleHeld(t *testing.T) {
	for _, c := range []struct {
		begin string
		most  int // bytes that may come behind it
		want  api.Errno
	}{
		{"<text>", 4096, api.ErrLimit}, {"<list><text>&lt;", 4095, api.ErrLimit}, {"<bytes>", 8192, api.ErrLimit}, {"<num>", 512, api.ErrLimit}, {`<tag name="`, 64, api.ErrLimit}, {`<record><field name="`, 64, api.ErrLimit}, {`<record><field name="&#x20ac;`, 61, api.ErrLimit},
		{"<float>", 16, api.ErrXml}, {"<list><", 11, api.ErrXml}, {"<text>a<", 11, api.ErrXml}, {`<tag name="t"`, 11, api.ErrXml}, {"<text>a&#x", 6, api.ErrXml}, {`<tag name="&`, 8, api.ErrXml},
	} {
		r := New()
		r.Feed([]byte(c.begin))
		if _, e := r.Feed([]byte(strings.Repeat("1", c.most))); e != api.OK {
			t.Errorf("P10.3: %s and %d bytes: Feed = %d", c.begin, c.most, e)
		}
		if _, e := r.Feed([]byte("1")); e != c.want {
			t.Errorf("P10.3: %s and %d bytes and one more: Feed = %d", c.begin, c.most, e)
		}
	}
}
