package xml_test

import (
	"math/rand"
	"slices"
	"strings"
	"testing"

	"calamus/api"
	"calamus/event"
	"calamus/xml"
)

// shortDocuments are documents, and what is none, of at most 16 bytes.
func shortDocuments() []string {
	return []string{
		"", " ", "<null/>", " <true/>\n", "<false/> ", "<num>12</num>", "<num>-1.5</num>", huge, "<num>1x</num>", "<text></text>", "<text>a></text>", "<text>\u00e9</text>", "<text>\xc3</text>", "<text>\n</text>", "<bytes></bytes>", "<list></list>", "<list> </list>", "<list><null/>", "<null/><null/>", "<list></text>", "<text>&lt;", "<text>&#x41;", "<null />", "<", "<text>\"", "<tag name=\"t\">", "<null/>\">", "<float>3ff0", "<record>",
	}
}

// P10.3 of all cuttings into parts.
func TestAllCuttings(t *testing.T) {
	for _, s := range shortDocuments() {
		v, e := xml.Read([]byte(s))
		for bits := range 1 << max(len(s)-1, 0) {
			askParts(t, s, v, e, cuts(len(s), bits))
		}
	}
}

// longDocuments are documents of all kinds, and the same with a fault.
func longDocuments() []string {
	l := []string{
		` <list> <null/> <text> a&#x41;></text></list> `, "<record> <field name=\"a&quot;b\">\n<list><true/><false/></list></field>\t<field name=\"\u00e9&#x1F600;\"> <tag name=\"&lt;>\"> <bytes>00ff</bytes> </tag> </field> </record>", `<tag name="t"><float>0123456789abcdef</float></tag>`, "<text>&lt;&amp;&quot;&gt;&#xa;&#x10ffff;\U0001f600\u00e9</text>", `<list><num>1</num><num>22</num><num>-3.3e33</num><num>4e444</num></list>`,
		`<list><num>1</num><num>22</num><num>-3.3e33</num><num>4e4x</num></list>`, `<record><field name="a"><null/></field><field name="&#x61;"><null/></field></record>`, "<text>\xf0\x9f\x98</text>", `<text>&#xd800;</text>`, `<text>&#x0000041;</text>`, `<list><text>a</list></text>`, `<record><null/></record>`, `<tag name="t"></tag>`, `<tag name="t"><null/><null/></tag>`, `<record><field name="a"><null/></field></record></record>`,
	}
	for _, c := range over() {
		if len(c.just)+len(c.over) < 500 {
			l = append(l, c.just, c.over, "<list>"+c.over+"</record>")
		}
	}
	return l
}

// P10.3 of longer ones: each place to cut at, and each size of parts.
func TestEachCut(t *testing.T) {
	for _, s := range longDocuments() {
		v, e := xml.Read([]byte(s))
		for at := 1; at < len(s); at++ {
			askParts(t, s, v, e, []int{at, len(s)})
			askParts(t, s, v, e, []int{at})
		}
	}
}

// P10.3 of some: each two places to cut at.
func TestEachTwoCuts(t *testing.T) {
	for _, s := range longDocuments()[:15] {
		v, e := xml.Read([]byte(s))
		for at := 1; at < len(s); at++ {
			for more := 1; at+more < len(s); more++ {
				askParts(t, s, v, e, []int{at, more, len(s)})
			}
		}
	}
}

// P10.3 of some values' documents, in some parts.
func TestSomeParts(t *testing.T) {
	r := rand.New(rand.NewSource(103))
	for range 2000 {
		v := someValue(r, 6)
		var sizes []int
		for range 1 + r.Intn(5) {
			sizes = append(sizes, 1+r.Intn(20))
		}
		askParts(t, loose(r, v), v, api.OK, sizes)
	}
}

// P10.3: empty parts change nothing, wherever they come.
func TestEmptyParts(t *testing.T) {
	for _, s := range append(shortDocuments(), longDocuments()...) {
		_, want := xml.Read([]byte(s))
		r := xml.New()
		var all []api.Event
		got := api.OK
		feed := func(b []byte) {
			l, e := r.Feed(b)
			all = append(all, l...)
			got = max(got, e)
		}
		for i := range len(s) {
			feed(nil)
			feed([]byte{})
			feed([]byte{s[i]})
			feed([]byte(s[i:])[:0])
		}
		l, e := r.End()
		all = append(all, l...)
		if got = max(got, e); got != want {
			t.Errorf("P10.3: %s with empty parts: %d, want %d", short(s), got, want)
		}
		if whole, _ := readParts(t, s, []int{1}); !slices.Equal(all, whole) {
			t.Errorf("P10.3: %s with empty parts: %v, want %v", short(s), all, whole)
		}
	}
}

// P10.3: what was told at any time begins a value, also where nothing is refused yet.
func TestToldSoFar(t *testing.T) {
	r := rand.New(rand.NewSource(104))
	docs := append(shortDocuments(), longDocuments()...)
	for range 300 {
		docs = append(docs, loose(r, someValue(r, 6)))
	}
	for _, s := range docs {
		reader := xml.New()
		var all []api.Event
		for i := range len(s) {
			l, e := reader.Feed([]byte{s[i]})
			if e != api.OK {
				break
			}
			if all = append(all, l...); len(l) == 0 {
				continue
			}
			if _, f := event.Build(all); f != api.OK && f != api.ErrEventEnd {
				t.Errorf("P10.3: %s: what was told up to byte %d begins no value: %d", short(s), i, f)
			}
		}
	}
}

// P10.3: a reader that has ended well takes nothing more, not even nothing; one that was refused says the same for good.
func TestEnded(t *testing.T) {
	for s, want := range map[string]api.Errno{"<null/>": api.ErrXml, "<list></list>": api.ErrXml, "": api.ErrXml, "<list>": api.ErrXml, huge: api.ErrLimit, "<list></text>": api.ErrXml, strings.Repeat("<list>", 17): api.ErrLimit} {
		for _, first := range []func(r *xml.Reader) ([]api.Event, api.Errno){
			func(r *xml.Reader) ([]api.Event, api.Errno) { return r.Feed(nil) },
			func(r *xml.Reader) ([]api.Event, api.Errno) { return r.Feed([]byte(" ")) },
			func(r *xml.Reader) ([]api.Event, api.Errno) { return r.Feed([]byte("<null/>")) },
			(*xml.Reader).End,
		} {
			r := xml.New()
			r.Feed([]byte(s))
			r.End()
			for range 3 {
				if l, e := first(r); e != want || len(l) > 0 {
					t.Errorf("P10.3: %s, then End, then a call = %v, %d, want %d", short(s), l, e, want)
				}
			}
			askRefused(t, r, nil, want)
		}
	}
}

// P10.3: the events may come with the bytes, and none comes twice.
func TestToldOnce(t *testing.T) {
	r := xml.New()
	var all []api.Event
	for _, s := range []string{"<list><num>1</nu", "m><record><field name=\"", "a", "\"><text>x</text></fie", "ld></record>", "</list> "} {
		l, e := r.Feed([]byte(s))
		if e != api.OK {
			t.Fatalf("P10.3: Feed(%s) = %d", s, e)
		}
		all = append(all, l...)
	}
	l, e := r.End()
	all = append(all, l...)
	want, _ := event.Flatten(list(whole("1"), record("a", text("x"))))
	if e != api.OK || !slices.Equal(all, want) {
		t.Errorf("P10.3: %v, %d", all, e)
	}
}

// R3: no reader at all.
func TestNoReader(t *testing.T) {
	var none *xml.Reader
	for _, b := range [][]byte{nil, {}, []byte("<null/>"), []byte("x"), []byte(strings.Repeat(" ", 70000))} {
		if l, e := none.Feed(b); e != api.ErrNil || len(l) > 0 {
			t.Errorf("R3: Feed of none = %v, %d", l, e)
		}
		if l, e := none.End(); e != api.ErrNil || len(l) > 0 {
			t.Errorf("R3: End of none = %v, %d", l, e)
		}
	}
	if xml.New() == nil {
		t.Error("P10.3: New is none")
	}
}
