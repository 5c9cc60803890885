package xml_test

import (
	"math"
	"math/rand"
	"slices"
	"strings"
	"sync"
	"testing"

	"calamus/api"
	"calamus/xml"
)

var null = api.Value{Kind: api.KindNull}

func flag(b bool) api.Value { return api.Value{Kind: api.KindBool, Flag: b} }

func number(n api.Num) api.Value { return api.Value{Kind: api.KindNum, Num: n} }

func whole(digits string) api.Value { return number(api.Num{Digits: digits}) }

func float(b uint64) api.Value { return api.Value{Kind: api.KindFloat, Bits: b} }

func text(s string) api.Value { return api.Value{Kind: api.KindText, Text: s} }

func raw(s string) api.Value { return api.Value{Kind: api.KindBytes, Text: s} }

func list(l ...api.Value) api.Value { return api.Value{Kind: api.KindList, List: l} }

// record has the names that are apart by a space in names.
func record(names string, l ...api.Value) api.Value {
	return api.Value{Kind: api.KindRecord, Names: strings.Fields(names), List: l}
}

// named is a record of one name, whatever that is.
func named(name string, v api.Value) api.Value {
	return api.Value{Kind: api.KindRecord, Names: []string{name}, List: []api.Value{v}}
}

func tag(name string, v api.Value) api.Value {
	return api.Value{Kind: api.KindTag, Text: name, List: []api.Value{v}}
}

// isZero tells whether v is a struct of noughts.
func isZero(v api.Value) bool {
	return same(v, api.Value{})
}

// same holds two values against each other, apart from value.Equal.
func same(a, b api.Value) bool {
	if a.Kind != b.Kind || a.Flag != b.Flag || a.Num != b.Num || a.Bits != b.Bits || a.Text != b.Text || !slices.Equal(a.Names, b.Names) {
		return false
	}
	return slices.EqualFunc(a.List, b.List, same)
}

// short is the beginning of s, for a message.
func short(s string) string {
	if len(s) > 200 {
		return s[:200] + " and so on"
	}
	return s
}

// names are those of records and tags.
func names() []string {
	return []string{"", "a", "b", "$", "$$", "$tag", "$float", "<", ">", "&", "\"", "'", "</field>", "\">", "<null/>", "&lt;", "&#x41;", " ", "\n", "\t a ", "\x00", "\x1f", "\x7f", "\u00e9", "\u0080", "\ud7ff\ue000\uffff", "\U0001f600", "\U0010ffff", strings.Repeat("n", 64), strings.Repeat("\"", 64), strings.Repeat("\u00e9", 32)}
}

// numbers are those at the edges of num.Print's forms.
func numbers() []api.Value {
	l := []api.Value{whole("0")}
	for _, d := range []string{"1", "15", "101", "123456789012345678901", strings.Repeat("9", 40)} {
		for _, exp := range []int{-400, -399, -41, -40, -22, -21, -20, -2, -1, 0, 1, 2, 18, 19, 20, 21, 22, 399, 400} {
			l = append(l, number(api.Num{Digits: d, Exp: exp}), number(api.Num{Neg: true, Digits: d, Exp: exp}))
		}
	}
	return l
}

// scalars are values of the six Kinds without parts.
var scalars = sync.OnceValue(makeScalars)

func makeScalars() []api.Value {
	l := append(numbers(), null, flag(false), flag(true))
	for _, b := range []uint64{0, 1, 1 << 63, 0x3ff0000000000000, 0x3fb999999999999a, 0x7ff0000000000000, 0x7ff8000000000001, 0x7ff0000000000001, 0x0123456789abcdef, math.MaxUint64} {
		l = append(l, float(b))
	}
	for _, s := range append(names(), "a<b>c&d\"e", "\r\n", "<text>a</text>", "&amp;lt;", "]]>", "<!---->", "null", "1", strings.Repeat("t", 100)) {
		l = append(l, text(s), raw(s))
	}
	return append(l, raw("\xff\x80"), raw("\xc3"), raw("\x00\xff"))
}

// someValue makes a value of up to depth deep.
func someValue(r *rand.Rand, depth int) api.Value {
	k := r.Intn(6)
	if depth < 2 {
		k = 5
	}
	ns := names()
	v := api.Value{}
	switch k {
	case 0, 1:
		v.Kind = api.KindList
		for range r.Intn(4) {
			v.List = append(v.List, someValue(r, depth-1))
		}
		return v
	case 2, 3:
		v.Kind = api.KindRecord
		for _, i := range r.Perm(len(ns))[:r.Intn(4)] {
			v.Names = append(v.Names, ns[i])
			v.List = append(v.List, someValue(r, depth-1))
		}
		return v
	case 4:
		return tag(ns[r.Intn(len(ns))], someValue(r, depth-1))
	}
	l := scalars()
	return l[r.Intn(len(l))]
}

// The examples of the chapter's table.
func TestExamples(t *testing.T) {
	for want, v := range map[string]api.Value{
		`<null/>`: null, `<num>1.5</num>`: number(api.Num{Digits: "15", Exp: -1}), `<text>a&lt;&#xa;</text>`: text("a<\n"),
		`<record><field name="a"><bytes>00ff</bytes></field></record>`: record("a", raw("\x00\xff")),
		`<tag name="t"><list></list></tag>`:                            tag("t", list()),
	} {
		if b, e := xml.Write(v); string(b) != want || e != api.OK {
			t.Errorf("P10.1: %s, %d, want %s", b, e, want)
		}
	}
	v, e := xml.Read([]byte(" <list> <null/> <text> a&#x41;></text></list> "))
	if want := list(null, text(" aA>")); e != api.OK || !same(v, want) {
		t.Errorf("P10.2: %v, %d", v, e)
	}
	for _, s := range []string{``, `<null />`, `<num> 1</num>`, `<text>"</text>`, `<text>&#xd800;</text>`, `<list>`, `<text/>`} {
		if v, e := xml.Read([]byte(s)); e != api.ErrXml || !isZero(v) {
			t.Errorf("P10.2: Read(%s) = %v, %d", s, v, e)
		}
	}
}
