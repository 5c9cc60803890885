package cbor_test

import (
	"encoding/hex"
	"fmt"
	"math"
	"math/big"
	"math/rand"
	"slices"
	"strings"
	"sync"
	"testing"

	"calamus/api"
	"calamus/cbor"
)

var null = api.Value{Kind: api.KindNull}

func flag(b bool) api.Value { return api.Value{Kind: api.KindBool, Flag: b} }

func number(n api.Num) api.Value { return api.Value{Kind: api.KindNum, Num: n} }

// whole is the number of these digits, noughts at their end too, perhaps with `-` ahead.
func whole(digits string) api.Value {
	n := api.Num{}
	n.Digits, n.Neg = strings.CutPrefix(digits, "-")
	if d := strings.TrimRight(n.Digits, "0"); d != "" {
		n.Digits, n.Exp = d, len(n.Digits)-len(d)
	}
	return number(n)
}

// power is the whole number of two to that power, more or less a few.
func power(exp uint, more int64, neg bool) api.Value {
	n := new(big.Int).Lsh(big.NewInt(1), exp)
	n.Add(n, big.NewInt(more))
	if neg {
		n.Neg(n)
	}
	return whole(n.String())
}

func float(b uint64) api.Value { return api.Value{Kind: api.KindFloat, Bits: b} }

func text(s string) api.Value { return api.Value{Kind: api.KindText, Text: s} }

func raw(s string) api.Value { return api.Value{Kind: api.KindBytes, Text: s} }

func list(l ...api.Value) api.Value { return api.Value{Kind: api.KindList, List: l} }

// record has the names that are apart by a space in names.
func record(names string, l ...api.Value) api.Value {
	return api.Value{Kind: api.KindRecord, Names: strings.Fields(names), List: l}
}

func tag(name string, v api.Value) api.Value {
	return api.Value{Kind: api.KindTag, Text: name, List: []api.Value{v}}
}

// x are the bytes of hexadecimal digits; blanks between mean nothing.
func x(digits string) string {
	b, err := hex.DecodeString(strings.ReplaceAll(digits, " ", ""))
	if err != nil {
		panic(digits)
	}
	return string(b)
}

// isZero tells whether v is a struct of noughts.
func isZero(v api.Value) bool {
	return v.Kind == 0 && !v.Flag && v.Num == api.Num{} && v.Bits == 0 && v.Text == "" && len(v.Names) == 0 && len(v.List) == 0
}

// same holds two values against each other, apart from value.Equal.
func same(a, b api.Value) bool {
	if a.Kind != b.Kind || a.Flag != b.Flag || a.Num != b.Num || a.Bits != b.Bits || a.Text != b.Text || len(a.List) != len(b.List) || !slices.Equal(a.Names, b.Names) {
		return false
	}
	for i := range a.List {
		if !same(a.List[i], b.List[i]) {
			return false
		}
	}
	return true
}

// short is the beginning of s as digits, for a message.
func short(s string) string {
	if len(s) > 60 {
		return fmt.Sprintf("% x and so on (%d)", s[:60], len(s))
	}
	return fmt.Sprintf("% x", s)
}

// names are those of records and tags.
func names() []string {
	return []string{"", "a", "b", "$", "$tag", "\u00e9", "\x00", "\U0001f600", strings.Repeat("n", 23), strings.Repeat("n", 24), strings.Repeat("n", 64)}
}

// numbers are those at the edges of the items.
func numbers() []api.Value {
	l := []api.Value{whole("0"), whole("1000"), number(api.Num{Digits: "15", Exp: -1}), number(api.Num{Neg: true, Digits: "15", Exp: -1})}
	for _, exp := range []uint{0, 1, 4, 5, 7, 8, 15, 16, 31, 32, 63, 64, 65, 72, 127, 128} {
		for more := int64(-2); more <= 1; more++ {
			for _, neg := range []bool{false, true} {
				if v := power(exp, more, neg); v.Num.Digits[0] != '-' && v.Num.Digits != "0" {
					l = append(l, v)
				}
			}
		}
	}
	nines := strings.Repeat("9", 40)
	for _, n := range []api.Num{
		{Digits: "24"}, {Digits: "23"}, {Digits: "25"}, {Digits: "1", Exp: 39}, {Digits: "1", Exp: 40}, {Digits: "1", Exp: 400}, {Digits: "12", Exp: 38}, {Digits: "12", Exp: 39}, {Digits: nines}, {Digits: nines, Exp: 1}, {Digits: nines, Exp: 400}, {Digits: nines, Exp: -400}, {Digits: "1", Exp: -1}, {Digits: "1", Exp: -24}, {Digits: "1", Exp: -25}, {Digits: "1", Exp: -256}, {Digits: "1", Exp: -257}, {Digits: "1", Exp: -400}, {Digits: "1", Exp: 255}, {Digits: "1", Exp: 256}, {Digits: "18446744073709551615", Exp: -3}, {Digits: "18446744073709551616", Exp: -3}, {Digits: "18446744073709551617", Exp: 30},
	} {
		l = append(l, number(n))
		n.Neg = true
		l = append(l, number(n))
	}
	return l
}

// scalars are values of the six Kinds without parts.
var scalars = sync.OnceValue(makeScalars)

func makeScalars() []api.Value {
	l := append(numbers(), null, flag(false), flag(true))
	for _, b := range []uint64{0, 1, 1 << 63, 0x3ff0000000000000, 0x3fb999999999999a, 0x3ff0000020000000, 0x7ff0000000000000, 0x7ff8000000000000, 0x7ff8000000000001, 0x7ff0000020000000, 0x0123456789abcdef, 0x3e70000000000000, 0x40effc0000000000, 0x40f0000000000000, math.MaxUint64} {
		l = append(l, float(b))
	}
	for _, s := range append(names(), strings.Repeat("t", 255), strings.Repeat("t", 256)) {
		l = append(l, text(s), raw(s))
	}
	return append(l, raw("\xff\x80"), raw("\xc3"))
}

// someValue makes a value of up to depth deep.
func someValue(r *rand.Rand, depth int) api.Value {
	k := r.Intn(6)
	if depth < 2 {
		k = 5
	}
	ns := names()
	v := api.Value{}
	switch k {
	case 0, 1:
		v.Kind = api.KindList
		for range r.Intn(4) {
			v.List = append(v.List, someValue(r, depth-1))
		}
		return v
	case 2, 3:
		v.Kind = api.KindRecord
		for _, i := range r.Perm(len(ns))[:r.Intn(4)] {
			v.Names = append(v.Names, ns[i])
			v.List = append(v.List, someValue(r, depth-1))
		}
		return v
	case 4:
		return tag(ns[r.Intn(len(ns))], someValue(r, depth-1))
	}
	l := scalars()
	return l[r.Intn(len(l))]
}

// The examples of the chapter's table.
func TestExamples(t *testing.T) {
	for digits, v := range map[string]api.Value{
		"00": whole("0"), "20": whole("-1"), "18 18": whole("24"), "19 03 e8": whole("1000"),
		"c4 82 20 0f": number(api.Num{Digits: "15", Exp: -1}), "c4 82 20 2e": number(api.Num{Neg: true, Digits: "15", Exp: -1}),
		"c2 49 01 00 00 00 00 00 00 00 00": whole("18446744073709551616"),
		"a1 61 61 f5":                      record("a", flag(true)), "d8 1b 82 61 74 f6": tag("t", null), "f9 3c 00": float(0x3ff0000000000000),
	} {
		if b, e := cbor.Write(v); string(b) != x(digits) || e != api.OK {
			t.Errorf("P8.1: % x, %d, want %s", b, e, digits)
		}
	}
	for digits, want := range map[string]api.Value{
		"9f 18 01 ff": list(whole("1")), "5f 41 00 ff": raw("\x00"), "c2 40": whole("0"), "3b ff ff ff ff ff ff ff ff": whole("-18446744073709551616"),
	} {
		if v, e := cbor.Read([]byte(x(digits))); e != api.OK || !same(v, want) {
			t.Errorf("P8.2: Read(%s) = %v, %d", digits, v, e)
		}
	}
	for _, digits := range []string{"", "18", "61 ff", "a2 61 61 00 61 61 00", "f7", "c0 00", "5f 5f ff ff", "00 00"} {
		if v, e := cbor.Read([]byte(x(digits))); e != api.ErrCbor || !isZero(v) {
			t.Errorf("P8.2: Read(%s) = %v, %d", digits, v, e)
		}
	}
}
