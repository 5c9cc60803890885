package json_test

import (
	"fmt"
	"math/rand"
	"strings"
	"testing"

	"calamus/api"
	"calamus/json"
	"calamus/num"
)

// document is a value's, laid out apart from Write, by the chapter's words.
func document(v api.Value) string {
	var l []string
	for i, w := range v.List {
		s := document(w)
		if v.Kind == api.KindRecord {
			n := v.Names[i]
			if i == 0 && n != "" && n[0] == '$' {
				n = "$" + n
			}
			s = inQuotes(n) + ":" + s
		}
		l = append(l, s)
	}
	within := strings.Join(l, ",")
	switch v.Kind {
	case api.KindNull:
		return "null"
	case api.KindBool:
		return fmt.Sprint(v.Flag)
	case api.KindNum:
		s, _ := num.Print(v.Num)
		return s
	case api.KindFloat:
		return fmt.Sprintf(`{"$float":"%016x"}`, v.Bits)
	case api.KindText:
		return inQuotes(v.Text)
	case api.KindBytes:
		return fmt.Sprintf(`{"$bytes":"%x"}`, v.Text)
	case api.KindList:
		return "[" + within + "]"
	case api.KindRecord:
		return "{" + within + "}"
	}
	return `{"$tag":[` + inQuotes(v.Text) + "," + within + "]}"
}

func inQuotes(s string) string {
	var out strings.Builder
	out.WriteString(`"`)
	for _, r := range s {
		switch {
		case r == '"' || r == '\\':
			out.WriteString(`\` + string(r))
		case r < 32:
			fmt.Fprintf(&out, `\u%04x`, r)
		default:
			out.WriteRune(r)
		}
	}
	return out.String() + `"`
}

// wantWritten asks Write for a value's document.
func wantWritten(t *testing.T, v api.Value, want string) {
	t.Helper()
	if b, e := json.Write(v); e != api.OK || string(b) != want {
		t.Errorf("P7.1: Write = %s, %d, want %s", short(string(b)), e, short(want))
	}
}

// wantNotWritten asks Write for an error.
func wantNotWritten(t *testing.T, v api.Value, want api.Errno) {
	t.Helper()
	if b, e := json.Write(v); e != want || len(b) > 0 {
		t.Errorf("P7.1: Write = %s, %d, want %d", short(string(b)), e, want)
	}
}

// P7.1 of each Kind.
func TestWriteKinds(t *testing.T) {
	for _, x := range []struct {
		v    api.Value
		want string
	}{
		{null, `null`}, {flag(true), `true`}, {flag(false), `false`},
		{whole("0"), `0`}, {number(api.Num{Neg: true, Digits: "5", Exp: -1}), `-0.5`}, {number(api.Num{Digits: "15", Exp: 30}), `1.5e31`}, {number(api.Num{Digits: "1", Exp: -400}), `1e-400`},
		{float(0), `{"$float":"0000000000000000"}`}, {float(0x8abcdef012345678), `{"$float":"8abcdef012345678"}`},
		{text(""), `""`}, {text("a/b'<>&"), `"a/b'<>&"`}, {text(`"\`), `"\"\\"`}, {text("\x00\x08\x09\x0a\x0c\x0d\x1f \x7f"), `"\u0000\u0008\u0009\u000a\u000c\u000d\u001f ` + "\x7f" + `"`},
		{text("\u0080\u2028\ufeff\U0001f600"), "\"\u0080\u2028\ufeff\U0001f600\""},
		{raw(""), `{"$bytes":""}`}, {raw("\x00\x0f\xf0\xff\xab"), `{"$bytes":"000ff0ffab"}`},
		{list(), `[]`}, {list(null), `[null]`}, {list(list(), list(whole("1"), whole("2"))), `[[],[1,2]]`},
		{record(""), `{}`}, {record("a", null), `{"a":null}`}, {record("b a", list(), record("")), `{"b":[],"a":{}}`},
		{tag("", null), `{"$tag":["",null]}`}, {tag("a\"\n", tag("$t", list())), `{"$tag":["a\"\u000a",{"$tag":["$t",[]]}]}`},
	} {
		wantWritten(t, x.v, x.want)
		wantWritten(t, list(x.v, x.v), "["+x.want+","+x.want+"]")
		wantWritten(t, record("a b", x.v, x.v), `{"a":`+x.want+`,"b":`+x.want+`}`)
		wantWritten(t, tag("t", x.v), `{"$tag":["t",`+x.want+`]}`)
	}
}

// P7.1: a record's first name, and no other one, has one more `$`.
func TestWriteNames(t *testing.T) {
	for _, n := range names() {
		first := n
		if strings.HasPrefix(n, "$") {
			first = "$" + n
		}
		v := api.Value{Kind: api.KindRecord, Names: []string{n}, List: []api.Value{null}}
		wantWritten(t, v, "{"+inQuotes(first)+":null}")
		v = api.Value{Kind: api.KindRecord, Names: []string{n, "x"}, List: []api.Value{null, v}}
		wantWritten(t, v, "{"+inQuotes(first)+`:null,"x":{`+inQuotes(first)+":null}}")
		v = api.Value{Kind: api.KindRecord, Names: []string{"x", n}, List: []api.Value{null, null}}
		wantWritten(t, v, `{"x":null,`+inQuotes(n)+":null}")
		v = api.Value{Kind: api.KindRecord, Names: []string{"$y", n}, List: []api.Value{null, null}}
		wantWritten(t, v, `{"$$y":null,`+inQuotes(n)+":null}")
		wantWritten(t, tag(n, null), `{"$tag":[`+inQuotes(n)+",null]}")
	}
}

// P7.1 of each character below 128, and those beside the edges of UTF-8's lengths.
func TestWriteCharacters(t *testing.T) {
	for r := range rune(0x10ffff + 1) {
		if r < 0x900 || r&0xff < 2 || r&0xff > 0xfd {
			if s := string(r); r < 0xd800 || r > 0xdfff {
				wantWritten(t, text("a"+s+"b"), inQuotes("a"+s+"b"))
			}
		}
	}
}

// P7.1 of values of all kinds, one in another.
func TestWriteSome(t *testing.T) {
	r := rand.New(rand.NewSource(71))
	for range 3000 {
		v := someValue(r, 6)
		wantWritten(t, v, document(v))
	}
}

// P7.1: what is no value, and what is not within the limits, also where its document would be too long.
func TestWriteRefused(t *testing.T) {
	long := make([]api.Value, 17)
	for i := range long {
		long[i] = text(strings.Repeat("a", 4096))
	}
	deep := null
	for range 16 {
		deep = tag("t", deep)
	}
	for _, x := range []struct {
		v    api.Value
		want api.Errno
	}{
		{api.Value{}, api.ErrValueForm}, {api.Value{Kind: 10}, api.ErrValueForm}, {api.Value{Kind: -1}, api.ErrValueForm}, {api.Value{Kind: api.KindNull, Text: "a"}, api.ErrValueForm},
		{text("\xff"), api.ErrValueForm}, {text("\xed\xa0\x80"), api.ErrValueForm}, {tag("\x80", null), api.ErrValueForm}, {record("a a", null, null), api.ErrValueForm}, {record("a", null, null), api.ErrValueForm}, {record("a b", null), api.ErrValueForm},
		{number(api.Num{}), api.ErrValueForm}, {number(api.Num{Digits: "10"}), api.ErrValueForm}, {number(api.Num{Digits: "1", Exp: 401}), api.ErrValueForm}, {api.Value{Kind: api.KindTag}, api.ErrValueForm},
		{list(append(long, api.Value{})...), api.ErrValueForm}, {list(text(strings.Repeat("a", 4097)), api.Value{}), api.ErrValueForm},
		{text(strings.Repeat("a", 4097)), api.ErrLimit}, {raw(strings.Repeat("a", 4097)), api.ErrLimit}, {tag(strings.Repeat("a", 65), null), api.ErrLimit}, {record(strings.Repeat("a", 65), null), api.ErrLimit}, {deep, api.ErrLimit},
		{list(make257()...), api.ErrLimit}, {list(long...), api.ErrLimit},
	} {
		wantNotWritten(t, x.v, x.want)
		wantNotWritten(t, list(null, x.v), x.want)
		wantNotWritten(t, tag("t", x.v), x.want)
	}
}

func make257() []api.Value {
	l := make([]api.Value, 257)
	for i := range l {
		l[i] = null
	}
	return l
}

// filled is a list with the document of v at its end, and n bytes in all.
func filled(v api.Value, n int) api.Value {
	n -= len(`[]`) + len(document(v))
	var l []api.Value
	for n > 0 {
		k := min(n-len(`"",`), 4096)
		if rest := n - k - len(`"",`); rest > 0 && rest < len(`"",`) {
			k -= 10
		}
		l = append(l, text(strings.Repeat("a", k)))
		n -= k + len(`"",`)
	}
	return list(append(l, v)...)
}

// P7.1: documents that just have 65536 bytes, and one more, whatever stands at their end.
func TestWriteLong(t *testing.T) {
	for _, v := range []api.Value{
		null, flag(true), flag(false), whole("12"), number(api.Num{Neg: true, Digits: "15", Exp: 400}), float(1), text(""), text("a"), text("\u00e9"), text("\""), text("\n"), raw(""), raw("ab"), list(), list(null), list(list()), record(""), record("a", null), record("$a b", null, list()), tag("t", null), tag("t", tag("u", raw("\xff"))), text(strings.Repeat("\x01", 4096)), raw(strings.Repeat("\x01", 4096)),
	} {
		for n := 65530; n < 65545; n++ {
			w := filled(v, n)
			s := document(w)
			if len(s) != n {
				t.Fatalf("filled: %d bytes, want %d", len(s), n)
			}
			if n > 65536 {
				wantNotWritten(t, w, api.ErrLimit)
			} else {
				wantWritten(t, w, s)
			}
		}
	}
	wide := list()
	for range 15 {
		wide.List = append(wide.List, text(strings.Repeat("\x00", 4096)))
	}
	wantNotWritten(t, wide, api.ErrLimit)
	for range 7 {
		wide = list(wide, wide)
	}
	wantNotWritten(t, wide, api.ErrLimit)
}
