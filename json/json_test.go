package json_test

import (
	"math"
	"math/rand"
	"slices"
	"strings"
	"testing"

	"calamus/api"
	"calamus/json"
)

var null = api.Value{Kind: api.KindNull}

func flag(b bool) api.Value { return api.Value{Kind: api.KindBool, Flag: b} }

func number(n api.Num) api.Value { return api.Value{Kind: api.KindNum, Num: n} }

func whole(digits string) api.Value { return number(api.Num{Digits: digits}) }

func float(b uint64) api.Value { return api.Value{Kind: api.KindFloat, Bits: b} }

func text(s string) api.Value { return api.Value{Kind: api.KindText, Text: s} }

func raw(s string) api.Value { return api.Value{Kind: api.KindBytes, Text: s} }

func list(l ...api.Value) api.Value { return api.Value{Kind: api.KindList, List: l} }

// record has the names that are apart by a space in names.
func record(names string, l ...api.Value) api.Value {
	return api.Value{Kind: api.KindRecord, Names: strings.Fields(names), List: l}
}

func tag(name string, v api.Value) api.Value {
	return api.Value{Kind: api.KindTag, Text: name, List: []api.Value{v}}
}

// isZero tells whether v is a struct of noughts.
func isZero(v api.Value) bool {
	return v.Kind == 0 && !v.Flag && v.Num == api.Num{} && v.Bits == 0 && v.Text == "" && len(v.Names) == 0 && len(v.List) == 0
}

// same holds two values against each other, apart from value.Equal.
func same(a, b api.Value) bool {
	if a.Kind != b.Kind || a.Flag != b.Flag || a.Num != b.Num || a.Bits != b.Bits || a.Text != b.Text || len(a.List) != len(b.List) || !slices.Equal(a.Names, b.Names) {
		return false
	}
	for i := range a.List {
		if !same(a.List[i], b.List[i]) {
			return false
		}
	}
	return true
}

// short is the beginning of s, for a message.
func short(s string) string {
	if len(s) > 100 {
		return s[:100] + " and so on"
	}
	return s
}

// names are those with which a record may begin, or go on.
func names() []string {
	return []string{"", "a", "b", "$", "$$", "$$$", "$a", "$$a", "$float", "$bytes", "$tag", "$$tag", "$$$float", "$ta", "$tags", "a$", "\u00e9", "\"", "\\", "\n", "\U0001f600"}
}

// scalars are values of the six Kinds without parts.
func scalars() []api.Value {
	l := []api.Value{null, flag(false), flag(true)}
	nines := strings.Repeat("9", 40)
	for _, n := range []api.Num{
		{Digits: "0"}, {Digits: "1"}, {Neg: true, Digits: "1"}, {Digits: "101", Exp: -2}, {Digits: "12", Exp: 2}, {Digits: "15", Exp: 30}, {Digits: "1", Exp: -21}, {Digits: "1", Exp: -22},
		{Digits: nines, Exp: 400}, {Neg: true, Digits: nines, Exp: -400}, {Digits: "1", Exp: 400}, {Digits: "1", Exp: -400},
	} {
		l = append(l, number(n))
	}
	for _, b := range []uint64{0, 1, 1 << 63, 0x3ff0000000000000, 0x7ff8000000000001, 0x0123456789abcdef, math.MaxUint64} {
		l = append(l, float(b))
	}
	for _, s := range append(names(), "\x00", "\x1f \x7f", "a/b", "\u0080", "\u2028\u2029", "\ud7ff\ue000\uffff", "\U0010ffff", "[1]", "null", `\u0041`) {
		l = append(l, text(s), raw(s))
	}
	return append(l, raw("\xff\x80"), raw("\xc3"))
}

// someValue makes a value of up to depth deep.
func someValue(r *rand.Rand, depth int) api.Value {
	k := r.Intn(6)
	if depth < 2 {
		k = 5
	}
	ns := names()
	v := api.Value{}
	switch k {
	case 0, 1:
		v.Kind = api.KindList
		for range r.Intn(4) {
			v.List = append(v.List, someValue(r, depth-1))
		}
		return v
	case 2, 3:
		v.Kind = api.KindRecord
		for _, i := range r.Perm(len(ns))[:r.Intn(4)] {
			v.Names = append(v.Names, ns[i])
			v.List = append(v.List, someValue(r, depth-1))
		}
		return v
	case 4:
		return tag(ns[r.Intn(len(ns))], someValue(r, depth-1))
	}
	l := scalars()
	return l[r.Intn(len(l))]
}

// The examples of the chapter's table.
func TestExamples(t *testing.T) {
	for want, v := range map[string]api.Value{
		`{"a":1.5,"$x":null}`: record("a $x", number(api.Num{Digits: "15", Exp: -1}), null),
		`{"$$x":null}`:        record("$x", null),
		`{"$bytes":"00ff"}`:   raw("\x00\xff"),
		`{"$tag":["t",true]}`: tag("t", flag(true)),
		"\"\\u000a\xc3\xa9\"": text("\x0a\xc3\xa9"),
	} {
		if b, e := json.Write(v); string(b) != want || e != api.OK {
			t.Errorf("P7.1: %s, %d, want %s", b, e, want)
		}
	}
	v, e := json.Read([]byte(` [1, 2.0e1 ,"\u00e9\ud83d\ude00"] `))
	if want := list(whole("1"), number(api.Num{Digits: "2", Exp: 1}), text("\u00e9\U0001f600")); e != api.OK || !same(v, want) {
		t.Errorf("P7.2: %v, %d", v, e)
	}
	for _, s := range []string{``, `[1,]`, `{"a":1,"a":2}`, `{"$x":1}`, `"\ud800"`, `{"$bytes":"0F"}`} {
		if v, e := json.Read([]byte(s)); e != api.ErrJson || !isZero(v) {
			t.Errorf("P7.2: Read(%s) = %v, %d", s, v, e)
		}
	}
	for _, s := range []string{strings.Repeat("[", 17) + strings.Repeat("]", 17), "1" + strings.Repeat("3", 41)} {
		if v, e := json.Read([]byte(s)); e != api.ErrLimit || !isZero(v) {
			t.Errorf("P7.2: Read(%s) = %v, %d", s, v, e)
		}
	}
}
