package value_test

import (
	"math"
	"math/rand"
	"strings"
	"testing"

	"calamus/api"
	"calamus/value"
)

var null = api.Value{Kind: api.KindNull}

func flag(b bool) api.Value { return api.Value{Kind: api.KindBool, Flag: b} }

func number(digits string, exp int) api.Value {
	return api.Value{Kind: api.KindNum, Num: api.Num{Digits: digits, Exp: exp}}
}

func below(digits string, exp int) api.Value {
	return api.Value{Kind: api.KindNum, Num: api.Num{Neg: true, Digits: digits, Exp: exp}}
}

func float(bits uint64) api.Value { return api.Value{Kind: api.KindFloat, Bits: bits} }

func text(s string) api.Value { return api.Value{Kind: api.KindText, Text: s} }

func raw(s string) api.Value { return api.Value{Kind: api.KindBytes, Text: s} }

func list(l ...api.Value) api.Value { return api.Value{Kind: api.KindList, List: l} }

// record has the names that are apart by a space in names.
func record(names string, l ...api.Value) api.Value {
	return api.Value{Kind: api.KindRecord, Names: strings.Fields(names), List: l}
}

func tag(name string, v api.Value) api.Value {
	return api.Value{Kind: api.KindTag, Text: name, List: []api.Value{v}}
}

// nested lays n lists around v.
func nested(n int, v api.Value) api.Value {
	for range n {
		v = list(v)
	}
	return v
}

// times is n of v.
func times(n int, v api.Value) []api.Value {
	l := make([]api.Value, n)
	for i := range l {
		l[i] = v
	}
	return l
}

// wide is a record of n nulls.
func wide(n int) api.Value {
	v := api.Value{Kind: api.KindRecord, List: times(n, null)}
	for i := range n {
		v.Names = append(v.Names, string(rune('a'+i)))
	}
	return v
}

// sized is a list, within the other limits, with n values in it, itself too.
func sized(n int) api.Value {
	v := list()
	for n--; n > 257; n -= 257 {
		v.List = append(v.List, list(times(256, null)...))
	}
	v.List = append(v.List, times(min(n, 200), null)...)
	if n > 200 {
		v.List = append(v.List, list(times(n-201, null)...))
	}
	return v
}

// someValues are values within the limits, of all Kinds, and so that many differ in one place alone.
func someValues() []api.Value {
	scalars := []api.Value{
		null, flag(false), flag(true),
		number("0", 0), number("1", 0), number("5", -1), number("1", 1), number("1", -400), number("1", 400), number(strings.Repeat("9", 40), 400),
		below("1", 0), below("5", -1), below("1", 1), below("1", -400), below("1", 400), below(strings.Repeat("9", 40), 400),
		float(0), float(1), float(0x3ff0000000000000), float(0x7ff0000000000000), float(0x7ff0000000000001), float(0x7ff8000000000000),
		float(1 << 63), float(0xfff0000000000000), float(0xfff8000000000001), float(math.MaxUint64), float(math.MaxInt64),
		text(""), text("a"), text("ab"), text("b"), text("\x00"), text("a\x00"), text("\u00e9"), text("\U0010ffff"), text(strings.Repeat("a", 4096)),
		raw(""), raw("a"), raw("ab"), raw("b"), raw("\x00"), raw("a\x00"), raw("\xff"), raw("\x7f\xff"), raw("\x80"), raw(strings.Repeat("\xff", 4096)),
	}
	l := append([]api.Value{}, scalars...)
	l = append(l,
		list(), list(null), list(null, null), list(null, flag(false)), list(flag(false)), list(flag(true), null), list(text("a")), list(text("ab")), list(text("a"), text("b")),
		list(list()), list(list(), list()), list(list(null)), list(list(null), null), list(record("")), list(tag("a", null)),
		record(""), record("a", null), record("a b", null, null), record("b a", null, null), record("b", null), record("ab", null), record("a", flag(false)), record("a b", flag(false), null),
		record("a b", null, flag(true)), record("a c", null, flag(false)), record("b", flag(true)), record("b a", flag(true), null), record("a", list()), record("a", record("a", null)),
		api.Value{Kind: api.KindRecord, Names: []string{""}, List: []api.Value{text("z")}},
		api.Value{Kind: api.KindRecord, Names: []string{"\u00e9", "a"}, List: []api.Value{null, number("1", 0)}},
		tag("", null), tag("a", null), tag("a", flag(true)), tag("ab", null), tag("b", null), tag("b", flag(false)), tag("a", list()), tag("a", tag("a", null)), tag("a", tag("b", null)), tag("\u00e9", text("a")),
		list(times(256, null)...), list(times(255, null)...), wide(256), wide(255), nested(15, null), nested(15, flag(true)), nested(14, list(null, null)), sized(4096),
	)
	return l
}

// someValue makes a value of up to depth deep with few elements and short names, so that two of them are often near each other.
func someValue(r *rand.Rand, depth int) api.Value {
	k := r.Intn(9)
	if depth < 2 {
		k = r.Intn(6)
	}
	short := func() string { return []string{"", "a", "b", "ab", "\u00e9"}[r.Intn(5)] }
	switch k {
	case 0:
		return null
	case 1:
		return flag(r.Intn(2) == 0)
	case 2:
		return api.Value{Kind: api.KindNum, Num: api.Num{Neg: r.Intn(2) == 0, Digits: []string{"1", "2", "15", "19"}[r.Intn(4)], Exp: r.Intn(3) - 1}}
	case 3:
		return float(uint64(r.Intn(2))<<63 | uint64(r.Intn(3)))
	case 4:
		return text(short())
	case 5:
		return raw([]string{"", "a", "\xff", "\xff\x00"}[r.Intn(4)])
	case 6:
		v := list()
		for range r.Intn(4) {
			v.List = append(v.List, someValue(r, depth-1))
		}
		return v
	case 7:
		v := record("")
		for _, i := range r.Perm(4)[:r.Intn(4)] {
			v.Names = append(v.Names, []string{"", "a", "ab", "b"}[i])
			v.List = append(v.List, someValue(r, depth-1))
		}
		return v
	}
	return tag(short(), someValue(r, depth-1))
}

// noValues are structs that are no values, each for a reason of its own.
func noValues() []api.Value {
	return []api.Value{
		{},
		{Kind: -1},
		{Kind: 10},
		{Kind: math.MaxInt},
		{Kind: math.MinInt},
		{Kind: api.KindNum},
		{Kind: api.KindNull, Text: "a"},
		{Kind: api.KindText, Text: "\xff"},
		{Kind: api.KindList, Names: []string{"a"}, List: []api.Value{null}},
		{Kind: api.KindRecord, Names: []string{"a", "a"}, List: []api.Value{null, null}},
		{Kind: api.KindRecord, Names: []string{"a"}},
		{Kind: api.KindTag, Text: "a"},
		{Kind: api.KindTag, Text: "a", List: []api.Value{null, null}},
		{Flag: true, Num: api.Num{Neg: true, Digits: "x", Exp: 7}, Bits: 1, Text: "t", Names: []string{"n"}, List: []api.Value{{}, {Kind: 99}}},
	}
}

// The examples of the chapter's table.
func TestExamples(t *testing.T) {
	for i, v := range []api.Value{{}, {Kind: api.KindNull, Text: "a"}, record("a a", null, null)} {
		if e := value.Check(v); e != api.ErrValueForm {
			t.Errorf("struct %d: Check = %d", i, e)
		}
	}
	for i, v := range []api.Value{text(strings.Repeat("a", 4097)), nested(16, list())} {
		if e := value.Check(v); e != api.ErrLimit {
			t.Errorf("value %d: Check = %d", i, e)
		}
	}
	if a, b, c := value.Depth(null), value.Depth(list(list())), value.Size(list(number("1", 0), number("2", 0))); a != 1 || b != 2 || c != 3 {
		t.Errorf("Depth, Depth, Size = %d, %d, %d", a, b, c)
	}
	for i, x := range []struct {
		a, b api.Value
		want int
	}{
		{flag(false), flag(true), -1},
		{number("1", 0), number("5", -1), 1},
		{text("a"), text("ab"), -1},
		{list(), text("a"), 1},
	} {
		if c, e := value.Cmp(x.a, x.b); c != x.want || e != api.OK {
			t.Errorf("pair %d: Cmp = %d, %d", i, c, e)
		}
	}
}
