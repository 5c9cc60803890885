package value_test

import (
	"math"
	"math/rand"
	"strings"
	"testing"

	"calamus/api"
	"calamus/value"
)

// places are ways in which a struct may stand within values that are within the limits, as long as it is small itself.
func places() []func(v api.Value) api.Value {
	return []func(v api.Value) api.Value{
		func(v api.Value) api.Value { return v },
		func(v api.Value) api.Value { return list(v) },
		func(v api.Value) api.Value { return list(v, null, text("a")) },
		func(v api.Value) api.Value { return list(null, v, text("a")) },
		func(v api.Value) api.Value { return list(null, text("a"), v) },
		func(v api.Value) api.Value { return record("a b c", null, v, text("a")) },
		func(v api.Value) api.Value { return record("a b", null, v) },
		func(v api.Value) api.Value { return tag("t", v) },
		func(v api.Value) api.Value { return tag("t", record("a", list(tag("t", v)))) },
		func(v api.Value) api.Value { return nested(9, list(record("a b", null, list(v)), null)) },
	}
}

// overPlaces are ways in which a struct may stand within what passes a limit, behind or ahead of it, or further out.
func overPlaces() []func(v api.Value) api.Value {
	long := text(strings.Repeat("a", 4097))
	name := strings.Repeat("n", 65)
	return []func(v api.Value) api.Value{
		func(v api.Value) api.Value { return list(long, v) },
		func(v api.Value) api.Value { return list(v, long) },
		func(v api.Value) api.Value { return list(list(raw(long.Text)), list(v)) },
		func(v api.Value) api.Value { return record("a "+name, null, v) },
		func(v api.Value) api.Value { return record("a "+name, v, null) },
		func(v api.Value) api.Value { return tag(name, v) },
		func(v api.Value) api.Value { return list(append(times(256, null), v)...) },
		func(v api.Value) api.Value { return list(append([]api.Value{v}, times(256, null)...)...) },
		func(v api.Value) api.Value {
			w := wide(257)
			w.List[256] = v
			return w
		},
		func(v api.Value) api.Value { return nested(16, v) },
		func(v api.Value) api.Value { return nested(300, v) },
		func(v api.Value) api.Value { return list(nested(16, null), v) },
		func(v api.Value) api.Value { return list(sized(4096), v) },
		func(v api.Value) api.Value { return list(v, sized(4095)) },
	}
}

// wantCheck asks for Check's answer on v, wherever it stands: in what passes a limit OK gives way.
func wantCheck(t *testing.T, what string, v api.Value, want api.Errno) {
	t.Helper()
	for i, place := range places() {
		if e := value.Check(place(v)); e != want {
			t.Errorf("P4.1: %s, in place %d: Check = %d, want %d", what, i, e, want)
		}
	}
	if want == api.OK {
		want = api.ErrLimit
	}
	for i, place := range overPlaces() {
		if e := value.Check(place(v)); e != want {
			t.Errorf("P4.1: %s, in place %d beyond a limit: Check = %d, want %d", what, i, e, want)
		}
	}
}

// P4.1 of values, and of structs that are none, wherever they stand.
func TestCheckKinds(t *testing.T) {
	for i, v := range someValues() {
		if e := value.Check(v); e != api.OK {
			t.Errorf("P4.1: value %d: Check = %d", i, e)
		}
		if value.Depth(v) < 4 && value.Size(v) < 10 {
			wantCheck(t, "a small value", v, api.OK)
		}
	}
	for _, v := range noValues() {
		wantCheck(t, "a struct that is no value", v, api.ErrValueForm)
	}
	for k := api.Kind(-20); k < 300; k++ {
		if k < 1 || k > 9 {
			wantCheck(t, "no Kind", api.Value{Kind: k}, api.ErrValueForm)
		}
	}
	wantCheck(t, "a Kind that would be one in fewer bits", api.Value{Kind: 1<<32 + 1}, api.ErrValueForm)
}

// field is a field of a value, set to something that is not zero.
type field struct {
	name string
	set  func(v *api.Value)
}

func fields() []field {
	return []field{
		{"Flag", func(v *api.Value) { v.Flag = true }},
		{"Num", func(v *api.Value) { v.Num = api.Num{Digits: "1"} }},
		{"Num", func(v *api.Value) { v.Num = api.Num{Digits: "0"} }},
		{"Num", func(v *api.Value) { v.Num = api.Num{Neg: true} }},
		{"Num", func(v *api.Value) { v.Num = api.Num{Exp: 1} }},
		{"Num", func(v *api.Value) { v.Num = api.Num{Exp: -1} }},
		{"Bits", func(v *api.Value) { v.Bits = 1 }},
		{"Bits", func(v *api.Value) { v.Bits = 1 << 63 }},
		{"Text", func(v *api.Value) { v.Text = "a" }},
		{"Text", func(v *api.Value) { v.Text = "\x00" }},
		{"Names", func(v *api.Value) { v.Names = []string{"a"} }},
		{"Names", func(v *api.Value) { v.Names = []string{""} }},
		{"List", func(v *api.Value) { v.List = []api.Value{null} }},
		{"List", func(v *api.Value) { v.List = []api.Value{{}} }},
	}
}

// P4.1: what a Kind does not use is zero.
func TestCheckUnused(t *testing.T) {
	for _, x := range []struct {
		v    api.Value
		used string
	}{
		{null, ""},
		{flag(true), "Flag"},
		{flag(false), "Flag"},
		{number("1", 0), "Num"},
		{float(1), "Bits"},
		{float(0), "Bits"},
		{text("a"), "Text"},
		{text(""), "Text"},
		{raw("a"), "Text"},
		{raw(""), "Text"},
		{list(null), "List"},
		{list(), "List"},
		{record("a", null), "Names List"},
		{record(""), "Names List"},
		{tag("a", null), "Text List"},
	} {
		for _, f := range fields() {
			if strings.Contains(x.used, f.name) {
				continue
			}
			v := x.v
			f.set(&v)
			wantCheck(t, "a field that is not used, "+f.name, v, api.ErrValueForm)
		}
		if !strings.Contains(x.used, "Names") {
			x.v.Names = []string{}
		}
		if !strings.Contains(x.used, "List") {
			x.v.List = make([]api.Value, 0, 3)
		}
		wantCheck(t, "lists without elements that are not nil", x.v, api.OK)
	}
}

// P4.1: a list without elements may be nil or not, also where it is used.
func TestCheckNil(t *testing.T) {
	for _, v := range []api.Value{
		{Kind: api.KindList, List: nil},
		{Kind: api.KindList, List: []api.Value{}},
		{Kind: api.KindRecord, Names: nil, List: nil},
		{Kind: api.KindRecord, Names: []string{}, List: nil},
		{Kind: api.KindRecord, Names: nil, List: []api.Value{}},
		{Kind: api.KindRecord, Names: []string{}, List: []api.Value{}},
	} {
		wantCheck(t, "a list without elements", v, api.OK)
	}
	wantCheck(t, "a tag without a value", api.Value{Kind: api.KindTag, Text: "a", List: []api.Value{}}, api.ErrValueForm)
}

// P4.1: a value's number is one.
func TestCheckNumbers(t *testing.T) {
	nines := strings.Repeat("9", 40)
	for _, n := range []api.Num{
		{Digits: "0"}, {Digits: "1"}, {Neg: true, Digits: "1"}, {Digits: "101"}, {Digits: nines}, {Neg: true, Digits: nines},
		{Digits: "1", Exp: 400}, {Digits: "1", Exp: -400}, {Neg: true, Digits: nines, Exp: 400}, {Neg: true, Digits: nines, Exp: -400},
	} {
		wantCheck(t, "a number", api.Value{Kind: api.KindNum, Num: n}, api.OK)
	}
	for _, n := range []api.Num{
		{}, {Neg: true}, {Exp: 1},
		{Neg: true, Digits: "0"}, {Digits: "0", Exp: 1}, {Digits: "0", Exp: -1}, {Digits: "00"},
		{Digits: "01"}, {Digits: "10"}, {Digits: "010"},
		{Digits: "-1"}, {Digits: "1.5"}, {Digits: "1e1"}, {Digits: " 1"}, {Digits: "a"}, {Digits: "1/1"}, {Digits: "1:1"}, {Digits: "\u0661"}, {Digits: "1\x001"},
		{Digits: nines + "9"}, {Digits: nines[:39] + "01"},
		{Digits: "1", Exp: 401}, {Digits: "1", Exp: -401}, {Digits: "1", Exp: math.MaxInt}, {Digits: "1", Exp: math.MinInt},
	} {
		wantCheck(t, "no number, "+n.Digits, api.Value{Kind: api.KindNum, Num: n}, api.ErrValueForm)
	}
}

// P4.1: texts, names and tags' names are UTF-8; bytes are any.
func TestCheckTexts(t *testing.T) {
	named := func(s string) api.Value {
		return api.Value{Kind: api.KindRecord, Names: []string{"a", s}, List: []api.Value{null, null}}
	}
	for _, s := range []string{"", "\x00", "b", "\u00e9", "\u20ac", "\ufffd", "\uffff", "\U0010ffff", "\ud7ff\ue000", "b\u00e9\U0001f600"} {
		for _, v := range []api.Value{text(s), raw(s), named(s), tag(s, null)} {
			wantCheck(t, "a text", v, api.OK)
		}
	}
	for _, s := range []string{"\x80", "\xff", "a\xc3", "\xc3a", "\xc0\x80", "\xc1\xbf", "\xe0\x9f\xbf", "\xed\xa0\x80", "\xed\xbf\xbf", "\xf0\x8f\xbf\xbf", "\xf4\x90\x80\x80", "\xf8\x88\x80\x80\x80", "\xe2\x82", "\xf0\x9f\x98", "\u00e9\xa9"} {
		wantCheck(t, "bytes", raw(s), api.OK)
		for _, v := range []api.Value{text(s), named(s), tag(s, null)} {
			wantCheck(t, "no text", v, api.ErrValueForm)
		}
	}
	for b := range 256 {
		wantCheck(t, "a byte", raw(string([]byte{byte(b)})), api.OK)
	}
}

// P4.1: a record has as many names as values, no name twice.
func TestCheckRecords(t *testing.T) {
	for _, v := range []api.Value{
		record("a b c", null, null, null), record("a A", null, null), record("a ab abc", null, null, null), record("b a", null, list()),
		record("a", record("a", record("a", null))), record("a b", record("a b", null, null), record("a b", null, null)),
		{Kind: api.KindRecord, Names: []string{"", " "}, List: times(2, null)},
		{Kind: api.KindRecord, Names: []string{"\u00e9", "e\u0301"}, List: times(2, null)},
	} {
		wantCheck(t, "a record", v, api.OK)
	}
	for _, v := range []api.Value{
		record("a"), record("", null), record("a b", null), record("a", null, null), record("a b c", null, null), record("a b", null, null, null),
		record("a a", null, null), record("a a", null, flag(true)), record("a b a", null, null, null), record("b a a", null, null, null), record("a b c b", times(4, null)...),
		{Kind: api.KindRecord, Names: []string{"", ""}, List: times(2, null)},
		{Kind: api.KindRecord, Names: []string{"\u00e9", "\u00e9"}, List: times(2, null)},
	} {
		wantCheck(t, "no record", v, api.ErrValueForm)
	}
	for _, at := range []int{0, 1, 127, 254} {
		v := wide(256)
		v.Names[255] = v.Names[at]
		wantCheck(t, "a wide record with a name twice", v, api.ErrValueForm)
	}
}

// P4.1: a tag has one value.
func TestCheckTags(t *testing.T) {
	for _, v := range []api.Value{tag("a", null), tag("", null), tag("a", tag("a", null)), tag("a", record("a", null))} {
		wantCheck(t, "a tag", v, api.OK)
	}
	for _, v := range []api.Value{
		{Kind: api.KindTag}, {Kind: api.KindTag, Text: "a"}, {Kind: api.KindTag, Text: "a", List: times(2, null)}, {Kind: api.KindTag, Text: "a", List: times(3, null)},
		{Kind: api.KindTag, Names: []string{"a"}, List: times(1, null)}, {Kind: api.KindTag, Text: "a", List: []api.Value{{}}},
	} {
		wantCheck(t, "no tag", v, api.ErrValueForm)
	}
}

// P4.1: each limit, just met and just passed.
func TestCheckLimits(t *testing.T) {
	a := func(n int) string { return strings.Repeat("a", n) }
	two := strings.Repeat("\u00e9", 2048)
	short := strings.Repeat("\u00e9", 32)
	for i, x := range []struct{ just, over api.Value }{
		{text(a(4096)), text(a(4097))},
		{raw(a(4096)), raw(a(4097))},
		{text(two), text(two + "a")}, // bytes are counted, not characters
		{raw(strings.Repeat("\xff", 4096)), raw(strings.Repeat("\xff", 4097))},
		{tag(a(64), null), tag(a(65), null)},
		{tag(short, null), tag(short+"a", null)},
		{record(a(64), null), record(a(65), null)},
		{record("b "+a(64), null, null), record("b "+a(65), null, null)},
		{record(a(64)+" b", null, null), record(a(65)+" b", null, null)},
		{record(short, null), record(short+"a", null)},
		{tag("t", text(a(4096))), tag("t", text(a(4097)))},
		{list(times(256, null)...), list(times(257, null)...)},
		{wide(256), wide(257)},
		{nested(15, null), nested(16, null)},
		{nested(15, list()), nested(16, list())},
		{sized(4096), sized(4097)},
		{list(times(15, list(times(256, null)...))...), list(times(16, list(times(256, null)...))...)},
		{list(times(15, wide(256))...), list(times(16, wide(256))...)},
		{list(times(256, list(times(14, null)...))...), list(times(256, list(times(15, null)...))...)},
		{list(times(5, wide(200))...), list(times(5, wide(300))...)},
	} {
		if e := value.Check(x.just); e != api.OK {
			t.Errorf("P4.1: limit %d, just met: Check = %d, of %d values %d deep", i, e, value.Size(x.just), value.Depth(x.just))
		}
		if e := value.Check(x.over); e != api.ErrLimit {
			t.Errorf("P4.1: limit %d, passed: Check = %d, of %d values %d deep", i, e, value.Size(x.over), value.Depth(x.over))
		}
		if value.Depth(x.just) > 4 || value.Size(x.just) > 1000 {
			continue
		}
		wantCheck(t, "a limit that is just met", x.just, api.OK)
		wantCheck(t, "a limit that is passed", x.over, api.ErrLimit)
	}
}

// P4.1: how deep and how many are counted through tags and records too, and of all elements.
func TestCheckDepthOfAll(t *testing.T) {
	by := []func(v api.Value) api.Value{
		func(v api.Value) api.Value { return list(v) },
		func(v api.Value) api.Value { return record("a", v) },
		func(v api.Value) api.Value { return tag("a", v) },
		func(v api.Value) api.Value { return list(null, v) },
		func(v api.Value) api.Value { return record("a b", v, null) },
	}
	r := rand.New(rand.NewSource(41))
	for range 200 {
		v := null
		for range 15 {
			v = by[r.Intn(len(by))](v)
		}
		if e := value.Check(v); e != api.OK {
			t.Errorf("P4.1: 16 deep: Check = %d", e)
		}
		if e := value.Check(by[r.Intn(len(by))](v)); e != api.ErrLimit {
			t.Errorf("P4.1: 17 deep: Check = %d", e)
		}
	}
	for n := 4000; n < 4200; n++ {
		want := api.OK
		if n > 4096 {
			want = api.ErrLimit
		}
		if got := value.Size(sized(n)); got != n {
			t.Fatalf("P4.2: Size = %d, want %d", got, n)
		}
		if e := value.Check(sized(n)); e != want {
			t.Errorf("P4.1: %d values: Check = %d", n, e)
		}
		if e := value.Check(tag("a", sized(n-1))); e != want {
			t.Errorf("P4.1: %d values with a tag's: Check = %d", n, e)
		}
	}
}

// changed is v, copied, with the n-th value in it (itself is 0) put through f.
func changed(v api.Value, n int, f func(v api.Value) api.Value) api.Value {
	if n == 0 {
		return f(v)
	}
	n--
	l := append([]api.Value{}, v.List...)
	for i, w := range l {
		k := count(w)
		if n < k {
			l[i] = changed(w, n, f)
			break
		}
		n -= k
	}
	v.List = l
	return v
}

// count is reckoned apart from Size.
func count(v api.Value) int {
	n, open := 0, []api.Value{v}
	for len(open) > 0 {
		last := open[len(open)-1]
		open = append(open[:len(open)-1:len(open)-1], last.List...)
		n++
	}
	return n
}

// P4.1 of values of all sorts, in which some one is changed, for the worse or beyond a limit.
func TestCheckChanged(t *testing.T) {
	r := rand.New(rand.NewSource(42))
	bad := noValues()
	over := []api.Value{text(strings.Repeat("a", 4097)), raw(strings.Repeat("a", 5000)), tag(strings.Repeat("a", 65), null), list(times(257, null)...), wide(257), nested(16, null)}
	for range 3000 {
		v := someValue(r, 6)
		n := count(v)
		if e := value.Check(v); e != api.OK {
			t.Fatalf("P4.1: Check(%v) = %d", v, e)
		}
		big := changed(v, r.Intn(n), func(api.Value) api.Value { return over[r.Intn(len(over))] })
		if e := value.Check(big); e != api.ErrLimit {
			t.Fatalf("P4.1: beyond a limit: Check = %d", e)
		}
		worse := changed(v, r.Intn(n), func(api.Value) api.Value { return bad[r.Intn(len(bad))] })
		if e := value.Check(worse); e != api.ErrValueForm {
			t.Fatalf("P4.1: Check(%v) = %d", worse, e)
		}
		both := changed(big, r.Intn(count(big)), func(api.Value) api.Value { return bad[r.Intn(len(bad))] })
		if e := value.Check(both); e != api.ErrValueForm {
			t.Fatalf("P4.1: beyond a limit, and no value: Check = %d", e)
		}
	}
}
