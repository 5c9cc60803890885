package xml_test

import (
	"fmt"
	"math/rand"
	"slices"
	"strings"
	"testing"

	"calamus/api"
	"calamus/num"
	"calamus/xml"
)

// document is a value's, laid out apart from Write, by the chapter's words.
func document(v api.Value) string {
	within := ""
	for i, w := range v.List {
		s := document(w)
		if v.Kind == api.KindRecord {
			s = fmt.Sprintf(`<field name="%s">%s</field>`, escaped(v.Names[i]), s)
		}
		within += s
	}
	switch v.Kind {
	case api.KindNull:
		return "<null/>"
	case api.KindBool:
		return fmt.Sprintf("<%t/>", v.Flag)
	case api.KindNum:
		s, _ := num.Print(v.Num)
		return "<num>" + s + "</num>"
	case api.KindFloat:
		return fmt.Sprintf("<float>%016x</float>", v.Bits)
	case api.KindText:
		return "<text>" + escaped(v.Text) + "</text>"
	case api.KindBytes:
		return fmt.Sprintf("<bytes>%x</bytes>", v.Text)
	case api.KindList:
		return "<list>" + within + "</list>"
	case api.KindRecord:
		return "<record>" + within + "</record>"
	}
	return fmt.Sprintf(`<tag name="%s">%s</tag>`, escaped(v.Text), within)
}

// escaped is a text as characters.
func escaped(s string) string {
	s = strings.NewReplacer("<", "&lt;", "&", "&amp;", `"`, "&quot;", ">", "&gt;").Replace(s)
	for c := range 32 {
		s = strings.ReplaceAll(s, string(rune(c)), fmt.Sprintf("&#x%x;", c))
	}
	return s
}

// wantWritten asks Write for a value's document.
func wantWritten(t *testing.T, v api.Value, want string) {
	t.Helper()
	if b, e := xml.Write(v); e != api.OK || string(b) != want {
		t.Errorf("P10.1: Write = %s, %d, want %s", short(string(b)), e, short(want))
	}
}

// wantNotWritten asks Write for an error.
func wantNotWritten(t *testing.T, v api.Value, want api.Errno) {
	t.Helper()
	if b, e := xml.Write(v); e != want || len(b) > 0 {
		t.Errorf("P10.1: Write = %s, %d, want %d", short(string(b)), e, want)
	}
}

// P10.1 of each Kind.
func TestWriteKinds(t *testing.T) {
	for _, c := range []struct {
		v    api.Value
		want string
	}{
		{null, `<null/>`}, {flag(true), `<true/>`}, {flag(false), `<false/>`},
		{whole("0"), `<num>0</num>`}, {number(api.Num{Neg: true, Digits: "5", Exp: -1}), `<num>-0.5</num>`}, {number(api.Num{Digits: "12", Exp: 2}), `<num>1200</num>`}, {number(api.Num{Digits: "15", Exp: 30}), `<num>1.5e31</num>`}, {number(api.Num{Digits: "1", Exp: -400}), `<num>1e-400</num>`},
		{float(0), `<float>0000000000000000</float>`}, {float(0x8abcdef012345678), `<float>8abcdef012345678</float>`},
		{text(""), `<text></text>`}, {text(" a/b' "), `<text> a/b' </text>`}, {text(`<&">`), `<text>&lt;&amp;&quot;&gt;</text>`}, {text("\x00\x01\x08\x09\x0a\x0d\x0f\x10\x1f \x7f"), "<text>&#x0;&#x1;&#x8;&#x9;&#xa;&#xd;&#xf;&#x10;&#x1f; \x7f</text>"},
		{text("\u0080\u2028\ufeff\U0001f600"), "<text>\u0080\u2028\ufeff\U0001f600</text>"}, {text("&lt;"), `<text>&amp;lt;</text>`},
		{raw(""), `<bytes></bytes>`}, {raw("\x00\x0f\xf0\xff\xab<"), `<bytes>000ff0ffab3c</bytes>`},
		{list(), `<list></list>`}, {list(null), `<list><null/></list>`}, {list(list(), list(whole("1"), text(""))), `<list><list></list><list><num>1</num><text></text></list></list>`},
		{record(""), `<record></record>`}, {record("b a", list(), record("")), `<record><field name="b"><list></list></field><field name="a"><record></record></field></record>`}, {named("", null), `<record><field name=""><null/></field></record>`}, {named("<\">&\n'", null), `<record><field name="&lt;&quot;&gt;&amp;&#xa;'"><null/></field></record>`}, {named("$tag", null), `<record><field name="$tag"><null/></field></record>`},
		{tag("", null), `<tag name=""><null/></tag>`}, {tag("a\"\t>", tag("$t", list())), `<tag name="a&quot;&#x9;&gt;"><tag name="$t"><list></list></tag></tag>`},
	} {
		wantWritten(t, c.v, c.want)
		wantWritten(t, list(c.v, c.v), "<list>"+c.want+c.want+"</list>")
		wantWritten(t, record("a b", c.v, c.v), `<record><field name="a">`+c.want+`</field><field name="b">`+c.want+`</field></record>`)
		wantWritten(t, tag("t", c.v), `<tag name="t">`+c.want+`</tag>`)
	}
}

// P10.1 of each character below 128, and those beside the edges of UTF-8's lengths, in texts and in names.
func TestWriteCharacters(t *testing.T) {
	for r := range rune(0x10ffff + 1) {
		if r < 0x900 || r&0xff < 2 || r&0xff > 0xfd {
			if s := "a" + string(r) + "b"; r < 0xd800 || r > 0xdfff {
				wantWritten(t, text(s), "<text>"+escaped(s)+"</text>")
				wantWritten(t, tag(s, named(s, null)), `<tag name="`+escaped(s)+`"><record><field name="`+escaped(s)+`"><null/></field></record></tag>`)
			}
		}
	}
}

// P10.1 of values of all kinds, one in another.
func TestWriteSome(t *testing.T) {
	r := rand.New(rand.NewSource(101))
	for _, v := range scalars() {
		wantWritten(t, v, document(v))
	}
	for range 3000 {
		v := someValue(r, 6)
		wantWritten(t, v, document(v))
	}
}

// P10.1: what is no value, and what is not within the limits, also where its document would be too long.
func TestWriteRefused(t *testing.T) {
	long := slices.Repeat([]api.Value{text(strings.Repeat("a", 4096))}, 17)
	deep := null
	for range 16 {
		deep = tag("t", deep)
	}
	for _, c := range []struct {
		v    api.Value
		want api.Errno
	}{
		{api.Value{}, api.ErrValueForm}, {api.Value{Kind: 10}, api.ErrValueForm}, {api.Value{Kind: -1}, api.ErrValueForm}, {api.Value{Kind: api.KindNull, Text: "a"}, api.ErrValueForm}, {api.Value{Kind: api.KindText, Flag: true}, api.ErrValueForm},
		{text("\xff"), api.ErrValueForm}, {text("\xed\xa0\x80"), api.ErrValueForm}, {tag("\x80", null), api.ErrValueForm}, {named("\xc3", null), api.ErrValueForm}, {record("a a", null, null), api.ErrValueForm}, {record("a", null, null), api.ErrValueForm}, {record("a b", null), api.ErrValueForm},
		{number(api.Num{}), api.ErrValueForm}, {whole("10"), api.ErrValueForm}, {number(api.Num{Digits: "1", Exp: 401}), api.ErrValueForm}, {api.Value{Kind: api.KindTag}, api.ErrValueForm}, {api.Value{Kind: api.KindTag, Text: "t", List: []api.Value{null, null}}, api.ErrValueForm},
		{list(append(long, api.Value{})...), api.ErrValueForm}, {list(text(strings.Repeat("a", 4097)), api.Value{}), api.ErrValueForm},
		{text(strings.Repeat("a", 4097)), api.ErrLimit}, {raw(strings.Repeat("a", 4097)), api.ErrLimit}, {tag(strings.Repeat("a", 65), null), api.ErrLimit}, {record(strings.Repeat("a", 65), null), api.ErrLimit}, {deep, api.ErrLimit},
		{list(slices.Repeat([]api.Value{null}, 257)...), api.ErrLimit}, {list(long...), api.ErrLimit},
	} {
		wantNotWritten(t, c.v, c.want)
		wantNotWritten(t, list(null, c.v), c.want)
		wantNotWritten(t, named("a", c.v), c.want)
		wantNotWritten(t, tag("t", c.v), c.want)
	}
}

// filled is a list with the document of v at its end, and n bytes in all.
func filled(v api.Value, n int) api.Value {
	const around = len("<text></text>")
	n -= len("<list></list>") + len(document(v))
	var l []api.Value
	for n > 0 {
		k := min(n-around, 4096)
		if rest := n - k - around; rest > 0 && rest < around {
			k -= around
		}
		l = append(l, text(strings.Repeat("a", k)))
		n -= k + around
	}
	return list(append(l, v)...)
}

// P10.1: documents that just have 65536 bytes, and one more, whatever stands at their end.
func TestWriteLong(t *testing.T) {
	for _, v := range []api.Value{
		null, flag(true), flag(false), whole("12"), number(api.Num{Neg: true, Digits: "15", Exp: 400}), float(1), text(""), text("a"), text("\u00e9"), text("\""), text("\n"), text("<>"), raw(""), raw("ab"), list(), list(null), list(list()), record(""), record("a", null), record("$a b", null, list()), named("\x1f", text("\x0f")), tag("t", null), tag("t>", tag("u", raw("\xff"))), text(strings.Repeat("\x01", 4096)), text(strings.Repeat("\"", 4096)), raw(strings.Repeat("\x01", 4096)),
	} {
		for n := 65525; n < 65545; n++ {
			w := filled(v, n)
			s := document(w)
			if len(s) != n {
				t.Fatalf("filled: %d bytes, want %d", len(s), n)
			}
			if n > 65536 {
				wantNotWritten(t, w, api.ErrLimit)
			} else {
				wantWritten(t, w, s)
			}
		}
	}
	wide := list(slices.Repeat([]api.Value{text(strings.Repeat("\x10", 4096))}, 15)...)
	wantNotWritten(t, wide, api.ErrLimit)
	for range 7 {
		wide = list(wide, wide)
	}
	wantNotWritten(t, wide, api.ErrLimit)
}
