package xml_test

import (
	"fmt"
	"strings"
	"testing"

	"calamus/api"
)

// huge is a number beyond the limits: no shorter document passes one.
const huge = "<num>1e999</num>"

// over are documents that just meet a limit, and pass it.
func over() []struct{ just, over string } {
	times := strings.Repeat
	around := func(n int, begin, within, end string) string { return times(begin, n) + within + times(end, n) }
	chars := func(s string) string { return "<text>" + s + "</text>" }
	digits := func(s string) string { return "<bytes>" + s + "</bytes>" }
	number := func(s string) string { return "<num>" + s + "</num>" }
	field := func(name, s string) string { return `<field name="` + name + `">` + s + "</field>" }
	record := func(name string) string { return "<record>" + field(name, "<null/>") + "</record>" }
	tagged := func(name string) string { return `<tag name="` + name + `"><null/></tag>` }
	items := func(n int) string { return "<list>" + times("<null/>", n) + "</list>" }
	wide := func(n int) string {
		s := "<record>"
		for i := range n {
			s += field(fmt.Sprint(i), "<list></list>")
		}
		return s + "</record>"
	}
	sized := func(n int) string { // a list with n values in it, itself too
		s := "<list>"
		for n--; n > 257; n -= 257 {
			s += items(256)
		}
		if n > 200 {
			s, n = s+items(99), n-100
		}
		return s + times("<null/>", n) + "</list>"
	}
	forty := times("9", 40)
	return []struct{ just, over string }{
		{chars(times("a", 4096)), chars(times("a", 4097))}, {chars(times(" ", 4096)), chars(times(" ", 4097))}, {chars(times("a", 4096)), chars(times("a", 8192))}, {chars(times("a", 4096)), chars(times("a", 65000))},
		{chars(times("\u00e9", 2048)), chars(times("\u00e9", 2048) + "a")}, {chars(times("&lt;", 4096)), chars(times("&lt;", 4097))}, {chars(times("&quot;", 4096)), chars(times("&quot;", 4096) + "a")}, {chars(times("&#x0;", 4096)), chars(times("&#x0;", 4097))}, {chars(times("&#x000041;", 4096)), chars(times("&#x000041;", 4096) + "a")}, {chars(times("&#xe9;", 2048)), chars(times("&#xe9;", 2048) + "a")}, {chars("a" + times("&#xe9;", 2047) + "a"), chars("a" + times("&#xe9;", 2048))}, {chars(times("&#x1f600;", 1024)), chars(times("&#x1f600;", 1023) + "aaaaa")}, {chars(times("&#x10ffff;", 1024)), chars("a" + times("&#x10ffff;", 1024))},
		{digits(times("a0", 4096)), digits(times("a0", 4097))}, {digits(times("a0", 4096)), digits(times("a0", 30000))},
		{record(times("a", 64)), record(times("a", 65))}, {record(times("a", 64)), record(times("a", 5000))}, {record(times("\u00e9", 32)), record(times("\u00e9", 32) + "a")}, {record(times("&#xe9;", 32)), record(times("&#xe9;", 33))}, {record(times("&quot;", 64)), record(times("&quot;", 65))}, {record(times("&#x1f600;", 16)), record("a" + times("&#x1f600;", 16))}, {record(times("$", 64)), record(times("$", 65))},
		{"<record>" + field("b", "<null/>") + field(times("a", 64), "<null/>") + "</record>", "<record>" + field("b", "<null/>") + field(times("a", 65), "<null/>") + "</record>"},
		{tagged(times("a", 64)), tagged(times("a", 65))}, {tagged(times(">", 64)), tagged(times(">", 5000))}, {tagged(times("&#xa;", 64)), tagged(times("&#xa;", 65))}, {tagged(times("\u00e9", 32)), tagged(times("\u00e9", 32) + "a")},
		{items(256), items(257)}, {wide(256), wide(257)}, {items(256), items(9000)},
		{sized(4096), sized(4097)}, {sized(4095), "<list>" + sized(4096) + "</list>"}, {sized(4094), "<record>" + field("a", sized(4096)) + "</record>"}, {`<tag name="t">` + sized(4095) + "</tag>", `<tag name="t">` + sized(4096) + "</tag>"},
		{around(16, "<list>", "", "</list>"), around(17, "<list>", "", "</list>")}, {around(16, "<list>", " ", "</list>"), around(4000, "<list>", "", "</list>")},
		{around(15, "<list>", "<null/>", "</list>"), around(16, "<list>", "<null/>", "</list>")}, {around(15, "<list>", number("1"), "</list>"), around(16, "<list>", number("1"), "</list>")}, {around(15, "<list>", chars(""), "</list>"), around(16, "<list>", chars(""), "</list>")}, {around(15, "<list>", digits(""), "</list>"), around(16, "<list>", digits(""), "</list>")}, {around(15, "<list>", "<float>0000000000000000</float>", "</list>"), around(16, "<list>", "<float>0000000000000000</float>", "</list>")}, {around(15, "<list>", "<record></record>", "</list>"), around(16, "<list>", "<record></record>", "</list>")},
		{around(15, `<record><field name="a">`, "<record></record>", "</field></record>"), around(16, `<record><field name="a">`, "<record></record>", "</field></record>")}, {around(15, `<record><field name="a">`, "<true/>", "</field></record>"), around(16, `<record><field name="a">`, "<true/>", "</field></record>")},
		{around(15, `<tag name="t">`, "<true/>", "</tag>"), around(16, `<tag name="t">`, "<true/>", "</tag>")}, {around(15, `<tag name="t">`, "<list></list>", "</tag>"), around(40, `<tag name="t">`, "<list></list>", "</tag>")}, {around(14, "<list>", tagged("t"), "</list>"), around(15, "<list>", tagged("t"), "</list>")}, {around(5, `<list><record><field name="a"><tag name="t">`, "<list></list>", "</tag></field></record></list>"), around(5, `<list><record><field name="a"><tag name="t">`, items(1), "</tag></field></record></list>")},
		{number(forty), number("1" + forty)}, {number("-" + forty + times("0", 400)), number("-" + forty + times("0", 401))}, {number("0." + forty), number("0.1" + forty)}, {number("1e400"), number("1e401")}, {number("1e-400"), number("1e-401")}, {number("0.1e401"), number("0.1e402")}, {number("0e99999999999999999999"), number("1e99999999999999999999")}, {number("1e400"), huge},
		{number("1e" + times("0", 507) + "400"), number("1e" + times("0", 508) + "400")}, {number("1." + times("0", 510)), number("1." + times("0", 511))}, {number("1." + times("0", 510)), number("1." + times("0", 60000))}, {number("0e" + times("9", 510)), number("0e" + times("9", 511))},
	}
}

// P10.2: each limit, just met and just passed, alone and within others.
func TestReadLimits(t *testing.T) {
	for _, c := range over() {
		wantError(t, c.just, api.OK)
		for _, s := range []string{c.over, " " + c.over + "\n", "<list>" + c.over + "<null/></list>", "<list> <null/> " + c.over + " </list>", `<record><field name="a">` + c.over + `</field><field name="b"><null/></field></record>`, `<tag name="t">` + c.over + "</tag>", "<list>" + huge + c.over + "</list>", "<list>" + c.over + c.over + "</list>"} {
			wantError(t, s, api.ErrLimit)
		}
		for _, s := range []string{c.over + "x", c.over + "<null/>", "<list>" + c.over, "<list>" + c.over + "</record>", `<record><field name="a">` + c.over + `</field><field name="a"><null/></field></record>`, `<tag name="t">` + c.over + "<null/></tag>", "<record>" + c.over + "</record>", c.over[:len(c.over)-1], c.over[:len(c.over)-2] + "x>"} {
			wantNone(t, s)
		}
	}
}

// P10.2: documents that just have 65536 bytes, and more; blanks count, wherever they stand.
func TestReadLong(t *testing.T) {
	blanks := func(n int) string { return strings.Repeat(" \t\n\r", n/4+1)[:n] }
	for _, s := range [][2]string{{"", "<null/>"}, {"<null/>", ""}, {"<list>", "</list>"}, {"<list><null/>", "</list>"}, {"<list>", "<null/></list>"}, {"<list><null/>", "<null/></list>"}, {"<record>", "</record>"}, {"<record>", `<field name="a"><null/></field></record>`}, {`<record><field name="a">`, `<null/></field></record>`}, {`<record><field name="a"><null/>`, `</field></record>`}, {`<record><field name="a"><null/></field>`, "</record>"}, {`<tag name="t">`, "<null/></tag>"}, {`<tag name="t"><null/>`, "</tag>"}} {
		for n := 65530; n < 65545; n++ {
			doc := s[0] + blanks(n-len(s[0])-len(s[1])) + s[1]
			if n <= 65536 {
				wantError(t, doc, api.OK)
			} else {
				wantError(t, doc, api.ErrLimit)
			}
			wantNone(t, doc+"x")
			wantNone(t, doc[:n-1]+"x")
		}
		wantError(t, s[0]+blanks(100000)+s[1], api.ErrLimit)
	}
	for n := 65530; n < 65545; n++ {
		doc := document(filled(null, n))
		if n <= 65536 {
			wantError(t, doc, api.OK)
		} else {
			wantError(t, doc, api.ErrLimit)
		}
		wantNone(t, doc[:n-1])
	}
	wantError(t, blanks(65536), api.ErrXml)
	wantNone(t, blanks(65537))
}

// P10.2: what is very long, or very deep, is refused; none of it is too deep for the machine.
func TestReadGreat(t *testing.T) {
	const n = 1 << 18
	for _, s := range []string{"<", ">", "<list>", "</list>", "<list> ", "<list><null/>", "<record>", `<record><field name="a">`, `<field name="a">`, `<field name="`, `<tag name="t">`, `<tag name="`, `">`, `"`, "<text>", "<text>a</text>", "a", "&", "&lt;", "&#x", "<num>", "<num>1", "1", "<bytes>", "00", "<float>", "<null/>", "</", "/", " ", "\x00", "\xff", "<!--", "<text>&", "<text>&#x0"} {
		wantNone(t, strings.Repeat(s, n/len(s)))
		wantNone(t, strings.Repeat(s, 65536/len(s)))
		wantNone(t, strings.Repeat(s, 60))
	}
	for _, s := range []string{"<text>", "<text>&", "<text>&#x", `<tag name="`, `<record><field name="`, "<num>", "<num>0.", "<bytes>", "<float>", "<"} {
		for _, c := range []string{"a", "0", "&lt;", ">", " ", "\u00e9", "\xff", "x", "#"} {
			wantNone(t, s+strings.Repeat(c, n))
		}
	}
	wantError(t, strings.Repeat("<list>", 9000)+strings.Repeat("</list>", 9000), api.ErrLimit)
	wantError(t, "<text>"+strings.Repeat("a", n)+"</text>", api.ErrLimit)
	wantError(t, `<tag name="`+strings.Repeat("a", n)+`"><null/></tag>`, api.ErrLimit)
	wantError(t, "<bytes>"+strings.Repeat("00", n)+"</bytes>", api.ErrLimit)
	wantError(t, "<num>"+strings.Repeat("1", n)+"</num>", api.ErrLimit)
	wantError(t, "<list>"+strings.Repeat("<null/>", n)+"</list>", api.ErrLimit)
}

// P10.2: of at most 16 bytes that are no document, and of the shortest that pass a limit, with and without a fault behind it.
func TestReadFewBytes(t *testing.T) {
	for _, s := range []string{huge, "<num>9e401</num>", "<num>1E999</num>"} {
		wantError(t, s, api.ErrLimit)
		for n := range 16 {
			wantError(t, s[:n], api.ErrXml)
			wantError(t, s[:n]+"x", api.ErrXml)
		}
		for _, more := range []string{"x", "<", "<null/>", "</num>", "\""} {
			wantNone(t, s+more)
			wantNone(t, "<list>"+s+more)
		}
		wantError(t, s+" ", api.ErrLimit)
		wantError(t, " "+s, api.ErrLimit)
	}
	for _, s := range wrongElements() {
		if len(s) <= 16 {
			wantError(t, s, api.ErrXml)
		}
	}
}
