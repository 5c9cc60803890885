package xml_test

import (
	"fmt"
	"math/rand"
	"strings"
	"testing"

	"calamus/api"
	"calamus/xml"
)

// wantRead asks Read for a value, and the reader for its events.
func wantRead(t *testing.T, s string, want api.Value) {
	t.Helper()
	if v, e := xml.Read([]byte(s)); e != api.OK || !same(v, want) {
		t.Errorf("P10.2: Read(%s) = %v, %d, want %v", short(s), v, e, want)
	}
	ask(t, s)
}

// wantError asks Read and the reader for this error.
func wantError(t *testing.T, s string, want api.Errno) {
	t.Helper()
	if e := ask(t, s); e != want {
		t.Errorf("P10.2: Read(%s) = %d, want %d", short(s), e, want)
	}
}

// wantNone asks Read and the reader for an error that they may answer of what is no document.
func wantNone(t *testing.T, s string) {
	t.Helper()
	if e := ask(t, s); !mayRefuse(s, e) {
		t.Errorf("P10.2: Read(%s) = %d", short(s), e)
	}
}

// blankRows are what may stand around elements and fields.
func blankRows() []string {
	return []string{"", " ", "\t", "\n", "\r", " \r\n\t "}
}

// P10.2 of each element, alone and within others, with blanks around it.
func TestReadKinds(t *testing.T) {
	for s, want := range map[string]api.Value{
		`<null/>`: null, `<true/>`: flag(true), `<false/>`: flag(false),
		`<num>0</num>`: whole("0"), `<num>-0</num>`: whole("0"), `<num>-0.0e-5</num>`: whole("0"), `<num>0e99999</num>`: whole("0"), `<num>12</num>`: whole("12"), `<num>-1.50</num>`: number(api.Num{Neg: true, Digits: "15", Exp: -1}), `<num>1E+3</num>`: number(api.Num{Digits: "1", Exp: 3}), `<num>1e-0400</num>`: number(api.Num{Digits: "1", Exp: -400}), `<num>100e398</num>`: number(api.Num{Digits: "1", Exp: 400}),
		`<float>0000000000000000</float>`: float(0), `<float>3ff0000000000000</float>`: float(0x3ff0000000000000), `<float>fff8000000000001</float>`: float(0xfff8000000000001), `<float>0123456789abcdef</float>`: float(0x0123456789abcdef),
		`<text></text>`: text(""), `<text>a</text>`: text("a"), `<text> a b  </text>`: text(" a b  "), `<text>></text>`: text(">"), `<text>/></text>`: text("/>"), `<text>]]>'</text>`: text("]]>'"), "<text>\x7f\u0080\u00e9\u2028\ufeff\uffff\U0001f600\U0010ffff</text>": text("\x7f\u0080\u00e9\u2028\ufeff\uffff\U0001f600\U0010ffff"),
		`<text>&lt;&amp;&quot;&gt;</text>`: text(`<&">`), `<text>&amp;lt;</text>`: text("&lt;"), `<text>&amp;#x41;</text>`: text("&#x41;"), `<text>a;b#x41;lt;</text>`: text("a;b#x41;lt;"), `<text>&lt;;&gt;;</text>`: text("<;>;"),
		`<text>&#x41;&#x041;&#x0041;&#x00041;&#x000041;</text>`: text("AAAAA"), `<text>&#x0;&#x00;&#x000000;&#x9;&#xa;&#xD;&#x1f;&#x20;</text>`: text("\x00\x00\x00\t\n\r\x1f "), `<text>&#xe9;&#xE9;&#x20Ac;&#x1f600;&#x1F600;&#x10ffff;&#x10FFFF;&#xd7ff;&#xe000;&#xfffe;&#xffff;&#x10000;&#x0e9;</text>`: text("\u00e9\u00e9\u20ac\U0001f600\U0001f600\U0010ffff\U0010ffff\ud7ff\ue000\ufffe\uffff\U00010000\u00e9"), `<text>&#x3c;null/&#x3e;&#x26;lt;&#x22;</text>`: text(`<null/>&lt;"`), "<text>\u00e9&#xe9;\u00e9</text>": text("\u00e9\u00e9\u00e9"),
		`<bytes></bytes>`: raw(""), `<bytes>00ff</bytes>`: raw("\x00\xff"), `<bytes>0123456789abcdef</bytes>`: raw("\x01\x23\x45\x67\x89\xab\xcd\xef"), `<bytes>3c2f62797465733e</bytes>`: raw("</bytes>"),
		`<list></list>`: list(), "<list> \t\n\r</list>": list(), `<list><null/></list>`: list(null), `<list><null/> <true/></list>`: list(null, flag(true)), `<list><list><list></list></list><list> </list></list>`: list(list(list()), list()), `<list><record></record><tag name=""><null/></tag><text></text><bytes></bytes></list>`: list(record(""), tag("", null), text(""), raw("")),
		`<record></record>`: record(""), "<record>\r\n</record>": record(""), `<record><field name="a"><null/></field></record>`: record("a", null), "<record> <field name=\"a\">\t<null/>\n</field>\r<field name=\"b\"><true/> </field>\n</record>": record("a b", null, flag(true)), `<record><field name=""><null/></field></record>`: named("", null), `<record><field name=">"><null/></field></record>`: named(">", null), `<record><field name=" a b "><null/></field></record>`: named(" a b ", null), `<record><field name="&lt;&quot;&amp;&gt;&#xa;/>"><null/></field></record>`: named("<\"&>\n/>", null), "<record><field name=\"\u00e9&#xe9;\"><null/></field></record>": named("\u00e9\u00e9", null), `<record><field name="$tag"><list></list></field></record>`: record("$tag", list()),
		`<record><field name="b"><record><field name="a"><list></list></field></record></field><field name="a"><record><field name="a"><record></record></field></record></field></record>`: record("b a", record("a", list()), record("a", record(""))), `<record><field name="a"><null/></field><field name="A"><null/></field><field name="a "><null/></field></record>`: {Kind: api.KindRecord, Names: []string{"a", "A", "a "}, List: []api.Value{null, null, null}}, `<record><field name="name=&quot;"><tag name="name="><null/></tag></field></record>`: named(`name="`, tag("name=", null)),
		`<tag name="t"><null/></tag>`: tag("t", null), "<tag name=\"t\">\n<null/>\t</tag>": tag("t", null), `<tag name=""><list></list></tag>`: tag("", list()), `<tag name=">>"><tag name="&#x41;"><record></record></tag></tag>`: tag(">>", tag("A", record(""))), `<tag name="a"><record><field name="a"><tag name="a"><text>a</text></tag></field></record></tag>`: tag("a", record("a", tag("a", text("a")))),
	} {
		for _, blank := range blankRows() {
			wantRead(t, blank+s+blank, want)
			wantRead(t, "<list>"+blank+s+blank+s+blank+"</list>", list(want, want))
			wantRead(t, "<record>"+blank+`<field name="a">`+blank+s+blank+"</field>"+blank+`<field name="$a">`+s+"</field>"+blank+"</record>", record("a $a", want, want))
			wantRead(t, `<tag name="t">`+blank+s+blank+"</tag>", tag("t", want))
		}
	}
}

// wrongElements are no elements.
func wrongElements() []string {
	return []string{
		``, ` `, `a`, `1`, `null`, `<`, `>`, `/`, `<>`, `</>`, `</`, `<null`, `<null/`, `<null />`, `<null/ >`, `< null/>`, `<null>`, `<null></null>`, `</null>`, `<Null/>`, `<NULL/>`, `<nul/>`, `<nulll/>`, `<null//>`, `<null/>>`, `<<null/>`, "<null\n/>", "<nu\nll/>", `<n`, `<null/>a`, `a<null/>`, `<null/>;`, `<true>`, `<true></true>`, `<True/>`, `<true/`, `<tru/>`, `<false>`, `<false`, `<falsE/>`, `<bool/>`, `<nil/>`, `<null a=""/>`,
		`<num></num>`, `<num/>`, `<num>`, `<num>1`, `<num>1<`, `<num>1</`, `<num>1</num`, `<num> 1</num>`, `<num>1 </num>`, "<num>1\n</num>", `<num>1</Num>`, `<num>1</ num>`, `<num>1</num >`, `<num>1<num>`, `<num>1<num/>`, `<num>1</text>`, `<num>1</float>`, `<num>1</list>`, `<num>01</num>`, `<num>+1</num>`, `<num>.5</num>`, `<num>1.</num>`, `<num>1e</num>`, `<num>-</num>`, `<num>1-1</num>`, `<num>0x1</num>`, `<num>1,5</num>`, `<num>NaN</num>`, `<num>&#x31;</num>`, `<num>&lt;</num>`, `<num>1&</num>`, `<num>1"</num>`, `<num>"1"</num>`, `<num>1">`, `<num>1></num>`, `<num>>1</num>`, `<num>null</num>`, `<num><null/></num>`, `<num><num>1</num></num>`, `<num>1<null/></num>`, "<num>1\x00</num>", "<num>\u0661</num>", "<num>\xff</num>", `<num >1</num>`, `<num a="">1</num>`, `<num name="1">1</num>`, `<int>1</int>`, `<number>1</number>`, `<num>1</num></num>`, `</num>`, `</num>1<num>`,
		`<float></float>`, `<float/>`, `<float>`, `<float>3ff0000000000000`, `<float>3ff0000000000000</float`, `<float>3ff000000000000</float>`, `<float>3ff00000000000000</float>`, `<float>3FF0000000000000</float>`, `<float>3ff000000000000g</float>`, `<float> 3ff0000000000000</float>`, `<float>3ff0000000000000 </float>`, `<float>3ff000000000000 </float>`, `<float>0x3ff00000000000</float>`, `<float>1.5</float>`, `<float>&#x33;ff0000000000000</float>`, `<float>3ff0000000000000</num>`, `<float>3ff0000000000000</bytes>`, `<float>3ff0000000000000">`, `<float>3ff0000000"000000</float>`, `<float>3ff000000000000"</float>`, `<float><null/></float>`, `<float>NaN</float>`, `</float>`, "<float>3ff00000000000\u00e9</float>",
		`<text>`, `<text/>`, `<text`, `<text>a`, `<text>a<`, `<text>a</`, `<text>a</text`, `<text>a</text >`, `<text>a</ text>`, `<text>a</num>`, `<text>a</list>`, `<text>a</bytes>`, `<text>a</tag>`, `<text>a</field>`, `<text>a<text>`, `<text><text></text></text>`, `<text><null/></text>`, `<text>a<b</text>`, `<text>a<</text>`, `<text><</text>`, `<text>"</text>`, `<text>a"</text>`, `<text>">`, `<text>a"></text>`, `<text>&</text>`, `<text>a&b</text>`, `<text>&&lt;</text>`, `<text>&;</text>`, `<text>&lt</text>`, `<text>&lt ;</text>`, `<text>& lt;</text>`, `<text>&LT;</text>`, `<text>&Lt;</text>`, `<text>&l;</text>`, `<text>&ltt;</text>`, `<text>&apos;</text>`, `<text>&nbsp;</text>`, `<text>&amp</text>`, `<text>&am;</text>`, `<text>&quo;</text>`, `<text>&gt`, `<text>&`, `<text>&lt;&</text>`, `<text>&amp;&amp</text>`, `<text>&l&lt;</text>`, `<text>&<lt;</text>`, `<text>&"lt;</text>`, `<text>&#`, `<text>&#x`, `<text>&#x4`,
		`<text>&#x;</text>`, `<text>&#;</text>`, `<text>&#65;</text>`, `<text>&#X41;</text>`, `<text>&x41;</text>`, `<text>&#x41</text>`, `<text>&#x41 ;</text>`, `<text>&#x 41;</text>`, `<text>&# x41;</text>`, `<text>& #x41;</text>`, `<text>&#x-41;</text>`, `<text>&#x+41;</text>`, `<text>&#x4_1;</text>`, `<text>&#x0x41;</text>`, `<text>&#x4g;</text>`, `<text>&#xg;</text>`, `<text>&#x0000041;</text>`, `<text>&#x00000041;</text>`, `<text>&#x0000000;</text>`, `<text>&#x1234567;</text>`, `<text>&#xd800;</text>`, `<text>&#xdbff;</text>`, `<text>&#xdc00;</text>`, `<text>&#xDFFF;</text>`, `<text>&#x00d800;</text>`, `<text>&#xd83d;&#xde00;</text>`, `<text>&#x110000;</text>`, `<text>&#xffffff;</text>`, `<text>&#xffffffff;</text>`, `<text>&#x100000041;</text>`, `<text>&#x4;1;&#x</text>`, "<text>&#x\u0661;</text>", "<text>&#x4\x00;</text>", "<text>&\u00e9;</text>", "<text>&\xff;</text>",
		"<text>\x00</text>", "<text>\x1f</text>", "<text>\n</text>", "<text>\t</text>", "<text>a\rb</text>", "<text>a\n</text>", "<text>\n a</text>", "<text>\xff</text>", "<text>\x80</text>", "<text>\xc3</text>", "<text>\xc3&#x80;</text>", "<text>\xc3&#xa9;</text>", "<text>&#xc3;\xa9</text>", "<text>\xe2\x82</text>", "<text>\xe2\x82&#xac;</text>", "<text>\xc0\x80</text>", "<text>\xed\xa0\x80</text>", "<text>\xf4\x90\x80\x80</text>", "<text>\xf0\x9f\x98</text>", "<text>\xc3</text>\xa9", "\xc3<text>\xa9</text>", "<text>\xc3&amp;\xa9</text>",
		`<text >a</text>`, `<text a="b">a</text>`, `<text name="a"></text>`, `<text name="">`, `<string>a</string>`, `<text><![CDATA[a]]></text>`, `<text><!--a--></text>`, `<text>a</text></text>`, `<text>a</text>b`, `<text>a</text><text>b</text>`,
		`<bytes/>`, `<bytes>`, `<bytes>0`, `<bytes>00`, `<bytes>00</bytes`, `<bytes>0</bytes>`, `<bytes>000</bytes>`, `<bytes>0F</bytes>`, `<bytes>F0</bytes>`, `<bytes>0g</bytes>`, `<bytes>g0</bytes>`, `<bytes> 00</bytes>`, `<bytes>00 </bytes>`, `<bytes>00 00</bytes>`, `<bytes>0 </bytes>`, "<bytes>00\n</bytes>", "<bytes>\u00e9</bytes>", `<bytes>&#x30;0</bytes>`, `<bytes>&#x30;&#x30;</bytes>`, `<bytes>00</text>`, `<bytes>00</num>`, `<bytes>00">`, `<bytes>0"</bytes>`, `<bytes><null/></bytes>`, `<bytes>></bytes>`, `<bytes>AA==</bytes>`, `</bytes>`,
		`<list>`, `<list/>`, `<list`, `<list >`, `<list></list`, `<list></ list>`, `<list></list >`, `</list>`, `<list><list>`, `<list><list></list>`, `<list></list></list>`, `<list></record>`, `<list></tag>`, `<list></field>`, `<list></text>`, `<list></null>`, `<list>a</list>`, `<list>1</list>`, `<list>,</list>`, `<list><null/>,<null/></list>`, `<list><null/>a</list>`, `<list>a<null/></list>`, `<list>></list>`, `<list>"</list>`, `<list>"></list>`, `<list>&#x20;</list>`, `<list>&lt;</list>`, "<list>\x00</list>", "<list>\x0b</list>", "<list>\x0c</list>", "<list>\u00a0</list>", "<list>\xff</list>", `<list><null/>`, `<list><null/></record>`, `<list><num>1</list></num>`, `<list><text></list>`, `<list><field name="a"><null/></field></list>`, `<list name="a"></list>`, `<list><tag name="a"></list></tag>`, `<list><record></list></record>`, `<list><list></record></list>`, `<list><`, `<list></`,
		`<record>`, `<record/>`, `<record`, `<record></record`, `</record>`, `<record></list>`, `<record><null/></record>`, `<record><list></list></record>`, `<record><text>a</text></record>`, `<record><num>1</num></record>`, `<record><record></record></record>`, `<record><tag name="a"><null/></tag></record>`, `<record>a</record>`, `<record>"</record>`, `<record>"></record>`, `<record><field></field></record>`, `<record><field><null/></field></record>`, `<record><field name="a"></field></record>`, `<record><field name="a"> </field></record>`, `<record><field name="a"/></record>`, `<record><field name="a"/><null/></field></record>`, `<record><field name="a"><null/></record>`, `<record><field name="a"><null/></field>`, `<record><field name="a"><null/>`, `<record><field name="a">`, `<record><field name="a"`, `<record><field name="a`, `<record><field name="`, `<record><field name=`, `<record><field `, `<record><field`, `<record><field name="a"><null/><null/></field></record>`, `<record><field name="a"><null/></field></field></record>`, `<record><field name="a"><null/></tag></record>`, `<record><field name="a"><null/></list></record>`, `<record><field name="a">a</field></record>`, `<record><field name="a"><null/>a</field></record>`, `<record><field name="a">"<null/></field></record>`, `<record><field name="a"></field><null/></record>`, `<record><field name="a"><field name="b"><null/></field></field></record>`, `<record></field></record>`, `<record><field name="a"><null/></field>a</record>`, `<record><field name="a"><null/></field>,<field name="b"><null/></field></record>`, `<record><field name="a"><null/></field><null/></record>`,
		`<field name="a"><null/></field>`, `<field name="a">`, `</field>`, `<field/>`, `<tag name="t"><field name="a"><null/></field></tag>`,
		`<record><field name='a'><null/></field></record>`, `<record><field name=a><null/></field></record>`, `<record><field  name="a"><null/></field></record>`, `<record><field name ="a"><null/></field></record>`, `<record><field name= "a"><null/></field></record>`, `<record><field name="a" ><null/></field></record>`, "<record><field\nname=\"a\"><null/></field></record>", `<record><field Name="a"><null/></field></record>`, `<record><field names="a"><null/></field></record>`, `<record><field name="a" name="b"><null/></field></record>`, `<record><field name="a"b"><null/></field></record>`, `<record><field name="a""><null/></field></record>`, `<record><field name="a<b"><null/></field></record>`, `<record><field name="<null/>"><null/></field></record>`, `<record><field name="a</field>"><null/></field></record>`, `<record><field name="&"><null/></field></record>`, `<record><field name="&lt"><null/></field></record>`, `<record><field name="&quot"><null/></field></record>`, `<record><field name="&#xd800;"><null/></field></record>`, `<record><field name="&apos;"><null/></field></record>`, "<record><field name=\"\n\"><null/></field></record>", "<record><field name=\"a\t\"><null/></field></record>", "<record><field name=\"\xff\"><null/></field></record>", "<record><field name=\"\xc3\"><null/></field></record>", "<record><field name=\"\xc3&#xa9;\"><null/></field></record>", `<record a="b"></record>`, `<record name="a"></record>`, `<record><item name="a"><null/></item></record>`, `<record><a><null/></a></record>`, `<record><field name="a"></text><null/></field></record>`, `<record><field name="a</text>"><null/></field></record>`,
		`<tag>`, `<tag/>`, `<tag><null/></tag>`, `<tag name="t">`, `<tag name="t"></tag>`, `<tag name="t"> </tag>`, `<tag name="t"/>`, `<tag name="t"`, `<tag name="t`, `<tag name="`, `<tag name="t"><null/>`, `<tag name="t"><null/></tag`, `<tag name="t"><null/></field>`, `<tag name="t"><null/></list>`, `<tag name="t"><null/><null/></tag>`, `<tag name="t"><null/></tag></tag>`, `</tag>`, `<tag name="t">a</tag>`, `<tag name="t"><null/>a</tag>`, `<tag name='t'><null/></tag>`, `<tag name=t><null/></tag>`, `<tag  name="t"><null/></tag>`, `<tag name="t" ><null/></tag>`, `<tag name ="t"><null/></tag>`, `<tag name="t<"><null/></tag>`, `<tag name="t""><null/></tag>`, `<tag name="&"><null/></tag>`, "<tag name=\"\x00\"><null/></tag>", "<tag name=\"\x80\"><null/></tag>", `<tag Name="t"><null/></tag>`, `<tag name="t" name="t"><null/></tag>`, `<tag name="t"></tag><null/>`, `<tag name="t">"></tag>`, `<tag name="t"><tag name="u"></tag></tag>`, `<tag name="t"><text></tag></text>`, `<tag name="t"</tag>`, `<tag name="t</tag>`, `<tag name="t"><num></tag>`,
		`<null/><null/>`, `<null/> <null/>`, `<list></list><list></list>`, `<null/><list>`, `<null/></list>`, `<null/>"`, `<null/>">`, `<null/> <`, `<null/>` + "\x00", "\ufeff<null/>", "\x0b<null/>", "\u00a0<null/>", "<null/>\x0c", `<?xml version="1.0"?><null/>`, `<!DOCTYPE null><null/>`, `<!----><null/>`, `<null/><!---->`, `<!-- a --><null/>`, `<x:null/>`, `<null xmlns="a"/>`, `&lt;null/&gt;`, `"`, `">`, `"<null/>`, `"><null/>`, `&lt;`, `&#x20;<null/>`, `<unknown/>`, `<value></value>`, `<field name="`, `<field name="a`,
	}
}

// P10.2: what is no element at all, alone and within others.
func TestReadWrong(t *testing.T) {
	for _, s := range wrongElements() {
		wantNone(t, s)
		for _, around := range [][2]string{{" ", "\n"}, {"<list>", "</list>"}, {"<list><null/>", "</list>"}, {"<list>", "<null/></list>"}, {"<record>", "</record>"}, {`<record><field name="a">`, "</field></record>"}, {`<record><field name="a">`, `</field><field name="b"><null/></field></record>`}, {`<record><field name="`, `"><null/></field></record>`}, {`<tag name="t">`, "</tag>"}, {`<tag name="`, `"><null/></tag>`}, {"<text>", "</text>"}, {"<num>", "</num>"}, {"<bytes>", "</bytes>"}, {strings.Repeat("<list>", 14), strings.Repeat("</list>", 14)}} {
			wrapped := around[0] + s + around[1]
			if !reckon([]byte(wrapped)).document { // a list around two elements makes one of them, a text around some bytes, too
				wantNone(t, wrapped)
			}
		}
	}
}

// P10.2: names that are there twice, however they are written.
func TestReadNamesTwice(t *testing.T) {
	fields := func(names ...string) string {
		s := "<record>"
		for _, n := range names {
			s += `<field name="` + n + `"><null/></field>`
		}
		return s + "</record>"
	}
	for _, s := range []string{
		fields("a", "a"), fields("a", "b", "a"), fields("b", "a", "a"), fields("", ""), fields("a", "&#x61;"), fields("&#x61;", "&#x000061;"), fields("&lt;", "&#x3c;"), fields(">", "&gt;"), fields("&gt;", "&#x3E;"), fields("\u00e9", "&#xe9;"), fields("&quot;", "&#x22;"), fields(" ", "&#x20;"), fields("$a", "$a"),
		`<record><field name="a">` + fields("a", "a") + `</field></record>`, `<record><field name="a">` + fields("a") + `</field><field name="a"><null/></field></record>`, `<list>` + fields("a", "a") + `</list>`, `<tag name="a">` + fields("a", "a") + `</tag>`,
	} {
		wantError(t, s, api.ErrXml)
	}
	for s, want := range map[string]api.Value{
		fields("a", "b"): record("a b", null, null), fields("a", "A", "&#x42;", "b"): record("a A B b", null, null, null, null), fields("$a", "$$a", "a"): record("$a $$a a", null, null, null), fields("&amp;lt;", "&lt;"): record("&lt; <", null, null),
		`<list>` + fields("a") + fields("a") + `</list>`: list(record("a", null), record("a", null)), `<record><field name="a">` + fields("a", "b") + `</field><field name="b">` + fields("a") + `</field></record>`: record("a b", record("a b", null, null), record("a", null)), `<tag name="a">` + fields("a") + `</tag>`: tag("a", record("a", null)),
	} {
		wantRead(t, s, want)
	}
}

// P10.2 of each number of a character, and others, in all lengths, in texts and in names.
func TestReadReferences(t *testing.T) {
	for n := range 0x111000 {
		if n >= 0x900 && n&0xff > 1 && n&0xff < 0xfe {
			continue
		}
		for _, form := range []string{"%x", "%X", "%06x", "%07x"} {
			s := fmt.Sprintf("&#x"+form+";", n)
			if n > 0x10ffff || n >= 0xd800 && n <= 0xdfff || form == "%07x" {
				wantError(t, "<text>"+s+"</text>", api.ErrXml)
				wantNone(t, `<tag name="`+s+`"><null/></tag>`)
				continue
			}
			want := "a" + string(rune(n)) + "b"
			wantRead(t, "<text>a"+s+"b</text>", text(want))
			wantRead(t, `<tag name="a`+s+`b"><null/></tag>`, tag(want, null))
		}
	}
}

// P10.2 of each byte in each place: in a text, in a name, and wherever blanks may stand.
func TestReadBytes(t *testing.T) {
	for c := range 256 {
		b := string([]byte{byte(c)})
		for _, s := range []string{"%s<null/>", "<null/>%s", "<%snull/>", "<null%s/>", "<null/%s>", "<text>%s</text>", "<text>a%sb</text>", "<num>1%s</num>", "<num>%s1</num>", "<bytes>0%s</bytes>", "<bytes>%s0</bytes>", "<float>3ff000000000000%s</float>", "<list>%s</list>", "<list><null/>%s<null/></list>", "<record>%s</record>", "<record><field name=\"a%s\"><null/></field></record>", "<record><field name=\"a\">%s<null/></field></record>", "<record><field name=\"a\"><null/>%s</field></record>", "<tag name=\"%s\"><null/></tag>", "<tag name=\"t\">%s<null/></tag>", "<tag name=\"t\"><null/>%s</tag>", "<tag name=\"t\"%s><null/></tag>", "<text>&%s;</text>", "<text>&#%s41;</text>", "<text>&#x%s;</text>", "<text>&#x4%s;</text>", "<text>&lt%s</text>", "<text>&#x41%s</text>", "<text>\xc3%s</text>", "<text>%s\xa9</text>"} {
			ask(t, strings.Replace(s, "%s", b, 1))
		}
	}
}

// P10.2 of all rows of few pieces.
func TestReadAllShort(t *testing.T) {
	pieces := []string{"<list>", "</list>", "<record>", "</record>", `<field name="`, "</field>", `<tag name="`, "</tag>", `">`, "a", " ", "<null/>", "<num>", "1e999", "</num>", "<text>", "</text>", "<bytes>", "</bytes>"}
	seen := map[api.Errno]int{}
	var each func(s string, n int)
	each = func(s string, n int) {
		seen[ask(t, s)]++
		for _, p := range pieces {
			if n > 0 {
				each(s+p, n-1)
			}
		}
	}
	each("", 4)
	for _, s := range []string{`<record><field name="`, `<record><field name="a">`, `<record><field name="a"><null/>`, `<record><field name="a"><null/></field>`, `<record><field name="b"><null/></field><field name="`, `<tag name="`, `<tag name="t">`, `<tag name="t"><null/>`, `<tag name="t"><list>`, `<list><num>1e999</num>`, `<list><text>`, `<list><tag name="`, `<list><record>`, `<num>1e999</num>`} {
		each(s, 3)
	}
	if seen[api.OK] < 50 || seen[api.ErrLimit] < 50 || seen[api.ErrXml] < 1000 {
		t.Errorf("too few of some: %v", seen)
	}
}

// P10.2 of all rows of few pieces of texts and names.
func TestReadAllTexts(t *testing.T) {
	pieces := []string{"&", "#", "x", ";", "lt", "amp;", "&gt;", "41", "d800", "10", "f", `"`, ">", "<", "\xc3", "\xa9", "\x1f", " "}
	seen := map[api.Errno]int{}
	var each func(s string, n int)
	each = func(s string, n int) {
		seen[ask(t, "<text>"+s+"</text>")]++
		seen[ask(t, `<tag name="`+s+`"><null/></tag>`)]++
		for _, p := range pieces {
			if n > 0 {
				each(s+p, n-1)
			}
		}
	}
	each("", 3)
	each("&#x", 3)
	each("&#", 3)
	each("&", 3)
	if seen[api.OK] < 100 || seen[api.ErrXml] < 1000 {
		t.Errorf("too few of some: %v", seen)
	}
}

// P10.2 of documents with any byte taken away, set to any other one, or laid in.
func TestReadEachChange(t *testing.T) {
	for _, s := range []string{`<null/>`, `<false/>`, `<num>-1.5e3</num>`, `<float>3ff0000000000000</float>`, `<text>a&quot;&#x41;></text>`, `<bytes>00ff</bytes>`, `<list> <true/></list>`, `<record><field name="a"><null/></field></record>`, `<tag name="&gt;"><list></list></tag>`} {
		for at := range len(s) + 1 {
			for c := range 256 {
				ask(t, s[:at]+string([]byte{byte(c)})+s[at:])
				if at < len(s) {
					ask(t, s[:at]+string([]byte{byte(c)})+s[at+1:])
				}
			}
			if at < len(s) {
				ask(t, s[:at]+s[at+1:])
			}
			ask(t, s[:at])
			ask(t, s[at:])
		}
	}
}

// P10.2 of documents that are changed in some places.
func TestReadChanged(t *testing.T) {
	r := rand.New(rand.NewSource(102))
	pieces := []string{"<list>", "</list>", "<record>", "</record>", `<field name="`, "</field>", `<tag name="`, "</tag>", `">`, `"`, ">", "<", "/", "a", " ", "\n", "\x00", "\xff", "\u00e9", "<null/>", "<true/>", "<num>", "1", "e999", "</num>", "<text>", "</text>", "<bytes>", "00", "</bytes>", "&", ";", "&lt;", "&#x", "&#x41;", "<list></list>"}
	seen := map[api.Errno]int{}
	for range 12000 {
		s := loose(r, someValue(r, 5))
		if r.Intn(8) == 0 {
			s = "<list>" + s + huge + s + "</list>"
		}
		for range r.Intn(3) {
			at := r.Intn(len(s) + 1)
			to := min(at+r.Intn(3), len(s))
			s = s[:at] + pieces[r.Intn(len(pieces))] + s[to:]
		}
		seen[ask(t, s)]++
	}
	if seen[api.OK] < 1000 || seen[api.ErrLimit] < 100 || seen[api.ErrXml] < 1000 {
		t.Errorf("too few of some: %v", seen)
	}
}
