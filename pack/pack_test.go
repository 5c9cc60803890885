package pack_test

import (
	"encoding/hex"
	"fmt"
	"math"
	"math/big"
	"math/rand"
	"slices"
	"strings"
	"sync"
	"testing"

	"calamus/api"
	"calamus/pack"
)

var null = api.Value{Kind: api.KindNull}

func flag(b bool) api.Value { return api.Value{Kind: api.KindBool, Flag: b} }

func number(n api.Num) api.Value { return api.Value{Kind: api.KindNum, Num: n} }

// decimal is the number of these digits times ten to that power, perhaps with `-` ahead.
func decimal(digits string, exp int) api.Value {
	n := api.Num{Exp: exp}
	n.Digits, n.Neg = strings.CutPrefix(digits, "-")
	return number(n)
}

// whole is the number of these digits, noughts at their end too, perhaps with `-` ahead.
func whole(digits string) api.Value {
	d := strings.TrimRight(digits, "0")
	if d == "" || d == "-" {
		return decimal("0", 0)
	}
	return decimal(d, len(digits)-len(d))
}

func float(b uint64) api.Value { return api.Value{Kind: api.KindFloat, Bits: b} }

func text(s string) api.Value { return api.Value{Kind: api.KindText, Text: s} }

func raw(s string) api.Value { return api.Value{Kind: api.KindBytes, Text: s} }

func list(l ...api.Value) api.Value { return api.Value{Kind: api.KindList, List: l} }

// record has the names that are apart by a space in names.
func record(names string, l ...api.Value) api.Value {
	return api.Value{Kind: api.KindRecord, Names: strings.Fields(names), List: l}
}

func tag(name string, v api.Value) api.Value {
	return api.Value{Kind: api.KindTag, Text: name, List: []api.Value{v}}
}

// x are the bytes of hexadecimal digits; blanks between mean nothing.
func x(digits string) string {
	b, err := hex.DecodeString(strings.ReplaceAll(digits, " ", ""))
	if err != nil {
		panic(digits)
	}
	return string(b)
}

// isZero tells whether v is a struct of noughts.
func isZero(v api.Value) bool {
	return same(v, api.Value{})
}

// same holds two values against each other, apart from value.Equal.
func same(a, b api.Value) bool {
	if a.Kind != b.Kind || a.Flag != b.Flag || a.Num != b.Num || a.Bits != b.Bits || a.Text != b.Text || !slices.Equal(a.Names, b.Names) {
		return false
	}
	return slices.EqualFunc(a.List, b.List, same)
}

// short is the beginning of s as digits, for a message.
func short(s string) string {
	if len(s) > 60 {
		return fmt.Sprintf("% x and so on (%d)", s[:60], len(s))
	}
	return fmt.Sprintf("% x", s)
}

// names are those of records and tags.
func names() []string {
	return []string{"", "a", "b", "$", "$$", "$tag", "$$tag", "$x", "$$x", "\u00e9", "\x00", "\U0001f600", strings.Repeat("n", 31), strings.Repeat("n", 32), strings.Repeat("$", 31), strings.Repeat("n", 64), strings.Repeat("$", 64)}
}

// numbers are those at the edges of the items.
func numbers() []api.Value {
	l := []api.Value{whole("0"), whole("1000"), whole("-32"), whole("-33"), whole("-31")}
	for _, exp := range []uint{0, 1, 4, 5, 6, 7, 8, 15, 16, 31, 32, 62, 63, 64, 65, 127} {
		for more := int64(-2); more <= 2; more++ {
			n := new(big.Int).Lsh(big.NewInt(1), exp)
			n.Add(n, big.NewInt(more))
			l = append(l, whole(n.String()), whole(n.Neg(n).String()))
		}
	}
	forty := strings.Repeat("9", 40)
	for _, d := range []string{"1", "5", "15", "125", "18446744073709551617", "1234567", "12345678", "12345678901234", "123456789012345", forty} {
		for _, exp := range []int{-400, -256, -22, -21, -20, -2, -1, 0, 1, 15, 16, 17, 18, 19, 20, 21, 22, 39, 40, 400} {
			l = append(l, decimal(d, exp), decimal("-"+d, exp))
		}
	}
	return l
}

// scalars are values of the six Kinds without parts.
var scalars = sync.OnceValue(makeScalars)

func makeScalars() []api.Value {
	l := append(numbers(), null, flag(false), flag(true))
	for _, b := range []uint64{0, 1, 1 << 63, 0x3ff0000000000000, 0x3fb999999999999a, 0x3ff0000020000000, 0x7ff0000000000000, 0x7ff8000000000000, 0x7ff8000000000001, 0x7ff0000020000000, 0x0123456789abcdef, 0x3e70000000000000, 0x36a0000000000000, 0x40effc0000000000, 0x40f0000000000000, math.MaxUint64} {
		l = append(l, float(b))
	}
	for _, s := range append(names(), strings.Repeat("t", 255), strings.Repeat("t", 256)) {
		l = append(l, text(s), raw(s))
	}
	return append(l, raw("\xff\x80"), raw("\xc3"))
}

// someValue makes a value of up to depth deep.
func someValue(r *rand.Rand, depth int) api.Value {
	k := r.Intn(6)
	if depth < 2 {
		k = 5
	}
	ns := names()
	v := api.Value{}
	switch k {
	case 0, 1:
		v.Kind = api.KindList
		for range r.Intn(4) {
			v.List = append(v.List, someValue(r, depth-1))
		}
		return v
	case 2, 3:
		v.Kind = api.KindRecord
		for _, i := range r.Perm(len(ns))[:r.Intn(4)] {
			v.Names = append(v.Names, ns[i])
			v.List = append(v.List, someValue(r, depth-1))
		}
		return v
	case 4:
		return tag(ns[r.Intn(len(ns))], someValue(r, depth-1))
	}
	l := scalars()
	return l[r.Intn(len(l))]
}

// The examples of the chapter's table.
func TestExamples(t *testing.T) {
	for digits, v := range map[string]api.Value{
		"00": whole("0"), "ff": whole("-1"), "d0 df": whole("-33"), "cc 80": whole("128"), "cd 03 e8": whole("1000"),
		"c7 03 01 31 2e 35": decimal("15", -1),
		"c7 14 01 31 38 34 34 36 37 34 34 30 37 33 37 30 39 35 35 31 36 31 36": whole("18446744073709551616"),
		"ca 3f 80 00 00": float(0x3ff0000000000000), "cb 3f b9 99 99 99 99 99 9a": float(0x3fb999999999999a),
		"81 a1 61 c3": record("a", flag(true)), "81 a4 24 74 61 67 92 a1 74 c0": tag("t", null),
	} {
		if b, e := pack.Write(v); string(b) != x(digits) || e != api.OK {
			t.Errorf("P9.1: % x, %d, want %s", b, e, digits)
		}
	}
	for digits, want := range map[string]api.Value{"d1 ff ff": whole("-1"), "cc 05": whole("5"), "d4 01 37": whole("7"), "da 00 01 61": text("a")} {
		if v, e := pack.Read([]byte(x(digits))); e != api.OK || !same(v, want) {
			t.Errorf("P9.2: Read(%s) = %v, %d", digits, v, e)
		}
	}
	for _, digits := range []string{"", "c1", "cd 00", "a1 ff", "82 a1 61 00 a1 61 00", "d4 02 37", "81 00 00", "81 a2 24 78 00"} {
		if v, e := pack.Read([]byte(x(digits))); e != api.ErrPack || !isZero(v) {
			t.Errorf("P9.2: Read(%s) = %v, %d", digits, v, e)
		}
	}
}
