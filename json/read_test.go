package json_test

import (
	"math/rand"
	"strings"
	"testing"

	"calamus/api"
	"calamus/json"
)

// wantRead asks Read for a value, and the reader for its events.
func wantRead(t *testing.T, s string, want api.Value) {
	t.Helper()
	if v, e := json.Read([]byte(s)); e != api.OK || !same(v, want) {
		t.Errorf("P7.2: Read(%s) = %v, %d, want %v", short(s), v, e, want)
	}
	ask(t, s)
}

// wantError asks Read and the reader for this error.
func wantError(t *testing.T, s string, want api.Errno) {
	t.Helper()
	if e := ask(t, s); e != want {
		t.Errorf("P7.2: Read(%s) = %d, want %d", short(s), e, want)
	}
}

// wantNone asks Read and the reader for an error that they may answer of what is no document.
func wantNone(t *testing.T, s string) {
	t.Helper()
	if e := ask(t, s); !mayRefuse(s, e) {
		t.Errorf("P7.2: Read(%s) = %d", short(s), e)
	}
}

// P7.2 of each kind of JSON value.
func TestReadKinds(t *testing.T) {
	for s, want := range map[string]api.Value{
		`null`: null, `true`: flag(true), `false`: flag(false),
		`0`: whole("0"), `-0`: whole("0"), `-0.0e-5`: whole("0"), `0e99999`: whole("0"), `12`: whole("12"), `-1.50`: number(api.Num{Neg: true, Digits: "15", Exp: -1}), `1E+3`: number(api.Num{Digits: "1", Exp: 3}), `1e-0400`: number(api.Num{Digits: "1", Exp: -400}), `100e398`: number(api.Num{Digits: "1", Exp: 400}),
		`""`: text(""), `"a"`: text("a"), `"\"\\\/\b\f\n\r\t"`: text("\"\\/\b\f\n\r\t"), `"\u0000\u001F\u00e9\u00E9\uFFFF\ud7ff\ue000"`: text("\x00\x1f\u00e9\u00e9\uffff\ud7ff\ue000"),
		`"\ud83d\ude00"`: text("\U0001f600"), `"\uD800\uDC00\udbff\udfff"`: text("\U00010000\U0010ffff"), `"x\uD83D\uDE00\ud83d\ude00y"`: text("x\U0001f600\U0001f600y"), "\"\u00e9\u2028\U0001f600\x7f\"": text("\u00e9\u2028\U0001f600\x7f"), `"\u005cu0041"`: text(`\u0041`), `"/'"`: text("/'"),
		`[]`: list(), `[ ]`: list(), `[1]`: list(whole("1")), `[1,"a",[],{}]`: list(whole("1"), text("a"), list(), record("")), `[[[]],[]]`: list(list(list()), list()),
		`{}`: record(""), "{\t\n\r }": record(""), `{"a":1}`: record("a", whole("1")), `{"b":{"a":[]},"a":{"a":{}}}`: record("b a", record("a", list()), record("a", record(""))), `{"\u0061":1,"A":2}`: record("a A", whole("1"), whole("2")),
		`{"$float":"3ff0000000000000"}`: float(0x3ff0000000000000), ` { "\u0024float" : "\u0066\u0066f8000000000001" } `: float(0xfff8000000000001),
		`{"$bytes":""}`: raw(""), `{"$bytes":"00ff"}`: raw("\x00\xff"), `{ "$bytes" : "\u0030a" }`: raw("\x0a"),
		`{"$tag":["t",null]}`: tag("t", null), ` { "$tag" : [ "" , { "$tag" : [ "$x" , [ ] ] } ] } `: tag("", tag("$x", list())),
	} {
		for _, blank := range []string{"", " ", "\t", "\n", "\r", " \r\n\t "} {
			wantRead(t, blank+s+blank, want)
			wantRead(t, "["+blank+s+blank+","+blank+s+blank+"]", list(want, want))
			wantRead(t, "{"+blank+`"a"`+blank+":"+blank+s+blank+","+blank+`"$a":`+s+"}", record("a $a", want, want))
			wantRead(t, `{"$tag"`+blank+":"+blank+"["+blank+`"t"`+blank+","+blank+s+blank+"]"+blank+"}", tag("t", want))
		}
	}
}

// P7.2: what is no JSON value at all, alone and within others.
func TestReadWrong(t *testing.T) {
	for _, s := range []string{
		``, ` `, `nul`, `nulll`, `Null`, `NULL`, `n`, `tru`, `True`, `fals`, `falsE`, `truefalse`, `undefined`, `NaN`, `Infinity`, `-Infinity`, `-`, `+1`, `01`, `-01`, `1.`, `.5`, `1.e1`, `1e`, `1e+`, `1e1.5`, `0x1`, `1_0`, `1,`, `--1`, `1-1`, `1a`, `a1`, `1 2`, `1"a"`, `"a"1`, `null null`, `1.5.5`, `1ee5`, `00`, `1e5e5`, `1L`, "\u0661", "1\x00", "\x00", "\x0b1", "\x0c1", "\u00a01", "\ufeff1", "\u20281", `'a'`, `a`, `/**/1`, `1//`, `#`, `;`, `(1)`, `\u0031`,
		`"`, `"a`, `"\"`, `"\`, `"\u`, `"\u0`, `"\u00`, `"\u000`, `"\u0041`, `"\a"`, `"\v"`, `"\0"`, `"\x41"`, `"\U0041"`, `"\'"`, `"\ "`, `"\u 041"`, `"\u+041"`, `"\u-041"`, `"\u004g"`, `"\u004"`, `"\u004` + "\x10" + `"`, `"\u00` + "\x11\x11" + `"`, `"\u{41}"`, "\"\\u00\u00e9\"", "\"\\\u00e9\"", "\"\\\x00\"", `"a""b"`, `""""`, `"a"b`,
		`"\ud800"`, `"\udbff"`, `"\udc00"`, `"\udfff"`, `"\ud83d"`, `"\ud83da"`, `"\ud83d\"`, `"\ud83d\n"`, `"\ud83d\\"`, `"\ud83d\""`, `"\ud83d\u0041"`, `"\ud83d\u0041\ude00"`, `"\ud83d\ue000\ude00"`, `"\ud83d\ud83d"`, `"\ud83d\ud83d\ude00"`, `"\ude00\ud83d"`, `"\ud83d \ude00"`, `"\ud83dx\ude00"`, `"\ud83d\ude0"`, `"\ud83d\ue000"`, `"\ud83d\udbff"`, `"\ud83d` + "\u00e9" + `"`, `"\ud83d\Ude00"`, `"\ud83d\xde00"`, `"\ud83d\ude00\ude00"`, `"\ud83d`, `"\ud83d\`, `"\ud83d\u`, `"\ud83d\ude00`,
		"\"\x00\"", "\"\x1f\"", "\"\n\"", "\"\t\"", "\"a\rb\"", "\"\xff\"", "\"\x80\"", "\"\xc3\"", "\"\xc3\\u0080\"", "\"\\u00c3\x80\"", "\"\xe2\x82\"", "\"\xe2\\u0082\xac\"", "\"\xc0\x80\"", "\"\xed\xa0\x80\"", "\"\xed\xa0\xbd\xed\xb8\x80\"", "\"\xf4\x90\x80\x80\"", "\"\xf0\x9f\x98\"", "\"\xc3\"\xa9", "\xc3\"\xa9\"",
		`[`, `]`, `[[`, `[]]`, `[[]`, `[,]`, `[1,]`, `[,1]`, `[1,,2]`, `[1 2]`, `[1:2]`, `["a":1]`, `[1}`, `[}`, `[}]`, `[1]1`, `[],`, `[][]`, `[1`, `[1,`, `["a"`, `["a`, `[nul]`, `[null`, `[{]}`,
		`{`, `}`, `{{}}`, `{}}`, `{]`, `{,}`, `{1:2}`, `{null:1}`, `{a:1}`, `{'a':1}`, `{"a"}`, `{"a":}`, `{"a",1}`, `{"a" 1}`, `{"a":1,}`, `{,"a":1}`, `{"a":1,,"b":2}`, `{"a":1 "b":2}`, `{"a":1:2}`, `{"a"::1}`, `{:1}`, `{"a":1]`, `{"a":[}`, `{"a":1`, `{"a":`, `{"a"`, `{"a":1,`, `{"a":1,"b"`, `{"a":1,"b"}`, `{"a":1,2}`, `{"a":1,[]}`, `{"a":1,null}`, `{[]:1}`, `{"a":1}{}`, `{}{}`, `:`, `,`, `"a":1`, `{"a":1,{}}`,
	} {
		wantNone(t, s)
		for _, around := range [][2]string{{" ", "\n"}, {"[", "]"}, {"[1,", "]"}, {"[", ",1]"}, {`{"a":`, "}"}, {`{"a":`, `,"b":1}`}, {`{"$tag":["t",`, "]}"}, {`{"$$":[`, "]}"}, {strings.Repeat("[", 15), strings.Repeat("]", 15)}} {
			wrapped := around[0] + s + around[1]
			if !reckon([]byte(wrapped)).document { // a list around two values makes one of them
				wantNone(t, wrapped)
			}
		}
	}
}

// P7.2: names that are there twice, behind what was taken away.
func TestReadNamesTwice(t *testing.T) {
	for _, s := range []string{
		`{"a":1,"a":2}`, `{"a":1,"b":2,"a":3}`, `{"b":1,"a":2,"a":3}`, `{"":1,"":2}`, `{"a":1,"\u0061":2}`, `{"$$a":1,"$a":2}`, `{"$$":1,"$":2}`, `{"$$$a":1,"$$a":2}`, `{"$$a":1,"b":2,"$a":3}`, `{"a":1,"$a":2,"$a":3}`, `{"$$float":1,"$float":2}`, `{"$$tag":1,"b":2,"$tag":3}`, `{"a":{"a":1},"a":1}`, `{"a":{"a":1,"a":2}}`, `[{"a":1,"a":1}]`, `{"\ud83d\ude00":1,"` + "\U0001f600" + `":1}`,
	} {
		wantError(t, s, api.ErrJson)
	}
	for s, want := range map[string]api.Value{
		`{"$$a":1,"$$a":2}`: record("$a $$a", whole("1"), whole("2")), `{"$$a":1,"a":2}`: record("$a a", whole("1"), whole("2")), `{"a":1,"$a":2,"$$a":3}`: record("a $a $$a", whole("1"), whole("2"), whole("3")), `{"$$$a":1,"$a":2}`: record("$$a $a", whole("1"), whole("2")),
		`{"a":{"a":{"a":1}}}`: record("a", record("a", record("a", whole("1")))), `[{"a":1},{"a":1}]`: list(record("a", whole("1")), record("a", whole("1"))), `{"a":{"b":1},"b":2}`: record("a b", record("b", whole("1")), whole("2")), `{"a":1,"A":2}`: record("a A", whole("1"), whole("2")), `{"a":{"$tag":["a",{"a":1}]}}`: record("a", tag("a", record("a", whole("1")))),
	} {
		wantRead(t, s, want)
	}
}

// P7.2: objects whose first name begins with `$`.
func TestReadMarked(t *testing.T) {
	for _, s := range []string{
		`{"$":1}`, `{"$x":1}`, `{"$Float":"3ff0000000000000"}`, `{"$float ":"3ff0000000000000"}`, `{"$floats":1}`, `{"$byte":"00"}`, `{"$tags":["t",1]}`, `{"$ta":["t",1]}`, `{"$ $":1}`, `{"\u0024x":1}`, `{"$x":1,"a":2}`, `{"$":{}}`,
		`{"$float":1}`, `{"$float":null}`, `{"$float":""}`, `{"$float":"3ff000000000000"}`, `{"$float":"3ff00000000000000"}`, `{"$float":"3FF0000000000000"}`, `{"$float":"3ff000000000000g"}`, `{"$float":" 3ff000000000000"}`, `{"$float":["3ff0000000000000"]}`, `{"$float":{"$float":"3ff0000000000000"}}`, `{"$float":"3ff0000000000000","a":1}`, `{"$float":"3ff0000000000000","$float":"3ff0000000000000"}`, `{"$float":"3ff0000000000000",}`, `{"$float":"3ff0000000000000"`, `{"$float":"3ff0000000000000"]`, `{"$float"}`, `{"$float":}`, `{"$float","3ff0000000000000"}`, `{"$float":"3ff0000000000000":1}`, `{"$float":1e5}`, `{"$float":[]}`, `{"$float":{}}`,
		`{"$bytes":0}`, `{"$bytes":"0"}`, `{"$bytes":"000"}`, `{"$bytes":"0F"}`, `{"$bytes":"F0"}`, `{"$bytes":"0g"}`, `{"$bytes":"g0"}`, `{"$bytes":" 0"}`, `{"$bytes":"00 00"}`, "{\"$bytes\":\"\u00e9\"}", `{"$bytes":["00"]}`, `{"$bytes":[]}`, `{"$bytes":null}`, `{"$bytes":"00","a":1}`, `{"$bytes":"00","$bytes":"00"}`, `{"$bytes":"00",}`, `{"$bytes":"00"`, `{"$bytes":{"$bytes":"00"}}`,
		`{"$tag":"t"}`, `{"$tag":null}`, `{"$tag":1}`, `{"$tag":[]}`, `{"$tag":["t"]}`, `{"$tag":["t",]}`, `{"$tag":["t",1,2]}`, `{"$tag":["t",1,]}`, `{"$tag":[1,2]}`, `{"$tag":[null,1]}`, `{"$tag":[["t"],1]}`, `{"$tag":[{},1]}`, `{"$tag":[,1]}`, `{"$tag":{"t":1}}`, `{"$tag":{}}`, `{"$tag":["t":1]}`, `{"$tag":["t" 1]}`, `{"$tag":["t",1],"a":2}`, `{"$tag":["t",1],"$tag":["t",1]}`, `{"$tag":["t",1],}`, `{"$tag":["t",1]`, `{"$tag":["t",1`, `{"$tag":["t",`, `{"$tag":["t"`, `{"$tag":[`, `{"$tag":`, `{"$tag"`, `{"$tag":["t",1}`, `{"$tag":["t",1}]`, `{"$tag":["t",1]]}`, `{"$tag":[["t",1]]}`, `{"$tag":["t",{"$x":1}]}`, `{"$tag":[{"$tag":["t",1]},1]}`, `{"$tag":[{"$bytes":""},1]}`, `{"$tag":["t",1] 1}`, `{"$tag":["t",1]:1}`, `{"$tag":"t",1]}`, `{"$tag":["t","t"`, `{"$tag"["t",1]}`, `{"$tag",["t",1]}`,
	} {
		wantNone(t, s)
		wantNone(t, "["+s+"]")
		wantNone(t, `{"a":`+s+`}`)
		wantNone(t, `{"$tag":["t",`+s+`]}`)
	}
	for s, want := range map[string]api.Value{
		`{"$$":1}`: record("$", whole("1")), `{"$$float":1}`: record("$float", whole("1")), `{"$$bytes":"0F"}`: record("$bytes", text("0F")), `{"$$tag":["t",1],"a":{}}`: record("$tag a", list(text("t"), whole("1")), record("")), `{"$$$tag":1}`: record("$$tag", whole("1")),
		`{"a":1,"$float":"x","$bytes":2,"$tag":3,"$":4,"$x":5}`: record("a $float $bytes $tag $ $x", whole("1"), text("x"), whole("2"), whole("3"), whole("4"), whole("5")), `{"$$a":1,"$tag":2}`: record("$a $tag", whole("1"), whole("2")), `{" $x":1}`: {Kind: api.KindRecord, Names: []string{" $x"}, List: []api.Value{whole("1")}},
		`["$float","3ff0000000000000"]`: list(text("$float"), text("3ff0000000000000")), `{"":{"$tag":["$tag",{"$$tag":{"$float":"0000000000000000"}}]}}`: {Kind: api.KindRecord, Names: []string{""}, List: []api.Value{tag("$tag", record("$tag", float(0)))}},
	} {
		wantRead(t, s, want)
	}
}

// P7.2 of all rows of few pieces.
func TestReadAllShort(t *testing.T) {
	pieces := []string{`[`, `]`, `{`, `}`, `,`, `:`, `"a"`, `"$tag"`, `1e999`, `1`, ` `, `"`}
	seen := map[api.Errno]int{}
	var each func(s string, n int)
	each = func(s string, n int) {
		seen[ask(t, s)]++
		for _, p := range pieces {
			if n > 0 {
				each(s+p, n-1)
			}
		}
	}
	each("", 4)
	for _, s := range []string{`{"":1e999`, `[1e999`, `{"$tag":[`, `{"$tag":["t",`, `{"$tag":["t",1]`, `{"$bytes":`, `{"$bytes":"00"`, `{"a":1`, `{"$$a":[]`, `[[],{}`, `[{"a":`, `{"$float":"0123456789abcdef"`} {
		each(s, 3)
	}
	if seen[api.OK] < 50 || seen[api.ErrLimit] < 50 || seen[api.ErrJson] < 1000 {
		t.Errorf("too few of some: %v", seen)
	}
}

// P7.2 of all rows of few bytes of texts.
func TestReadAllTexts(t *testing.T) {
	pieces := []string{`\`, `u`, `"`, `n`, `d83d`, `\ude00`, `0041`, "\xc3", "\xa9", "\x1f", "a"}
	seen := map[api.Errno]int{}
	var each func(s string, n int)
	each = func(s string, n int) {
		seen[ask(t, `"`+s+`"`)]++
		for _, p := range pieces {
			if n > 0 {
				each(s+p, n-1)
			}
		}
	}
	each("", 4)
	if seen[api.OK] < 100 || seen[api.ErrJson] < 1000 {
		t.Errorf("too few of some: %v", seen)
	}
}

// P7.2 of documents that are changed in some places.
func TestReadChanged(t *testing.T) {
	r := rand.New(rand.NewSource(72))
	pieces := []string{`[`, `]`, `{`, `}`, `,`, `:`, `"`, `""`, `\`, `\u`, `$`, `"$tag":`, `null`, `1`, `e999`, `-`, `.`, `e`, `0`, ` `, "\n", "\x00", "\xff", "\xc3\xa9", `[]`, `{}`, `,1`, `"a":`, `1e401`}
	seen := map[api.Errno]int{}
	for range 30000 {
		s := document(someValue(r, 5))
		if r.Intn(8) == 0 {
			s = strings.Replace(s, "null", "1e999", 1)
		}
		for range r.Intn(3) {
			at := r.Intn(len(s) + 1)
			to := min(at+r.Intn(3), len(s))
			s = s[:at] + pieces[r.Intn(len(pieces))] + s[to:]
		}
		seen[ask(t, s)]++
	}
	if seen[api.OK] < 1000 || seen[api.ErrLimit] < 100 || seen[api.ErrJson] < 1000 {
		t.Errorf("too few of some: %v", seen)
	}
}
