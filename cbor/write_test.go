package cbor_test

import (
	"encoding/binary"
	"math/big"
	"math/rand"
	"strings"
	"testing"

	"calamus/api"
	"calamus/cbor"
	"calamus/fbits"
)

// head is a short one, laid out apart from Write.
func head(major int, n uint64) string {
	width := 0
	switch {
	case n > 0xffffffff:
		width = 8
	case n > 0xffff:
		width = 4
	case n > 0xff:
		width = 2
	case n > 0x17:
		width = 1
	}
	return headOf(major, n, width)
}

// headOf is one whose number stands in so many bytes.
func headOf(major int, n uint64, width int) string {
	first := byte(major * 0x20)
	all := string(binary.BigEndian.AppendUint64(nil, n))
	switch width {
	case 0:
		return string([]byte{first + byte(n)})
	case 1:
		first += 0x18
	case 2:
		first += 0x19
	case 4:
		first += 0x1a
	case 8:
		first += 0x1b
	}
	return string([]byte{first}) + all[8-width:]
}

// document is a value's, laid out apart from Write, by the chapter's words.
func document(v api.Value) string {
	within := ""
	for i, w := range v.List {
		if v.Kind == api.KindRecord {
			within += head(3, uint64(len(v.Names[i]))) + v.Names[i]
		}
		within += document(w)
	}
	size := uint64(len(v.Text))
	switch v.Kind {
	case api.KindNull:
		return x("f6")
	case api.KindBool:
		if v.Flag {
			return x("f5")
		}
		return x("f4")
	case api.KindNum:
		return numberItem(v.Num)
	case api.KindFloat:
		width, p := fbits.Narrow(v.Bits)
		all := string(binary.BigEndian.AppendUint64(nil, p))
		return map[int]string{16: "\xf9", 32: "\xfa", 64: "\xfb"}[width] + all[8-width/8:]
	case api.KindText:
		return head(3, size) + v.Text
	case api.KindBytes:
		return head(2, size) + v.Text
	case api.KindList:
		return head(4, uint64(len(v.List))) + within
	case api.KindRecord:
		return head(5, uint64(len(v.List))) + within
	}
	return x("d81b82") + head(3, size) + v.Text + within
}

func numberItem(n api.Num) string {
	if n.Exp >= 0 && len(n.Digits)+n.Exp <= 40 {
		return wholeItem(n.Neg, n.Digits+strings.Repeat("0", n.Exp))
	}
	exp := uint64(n.Exp)
	if n.Exp < 0 {
		return x("c482") + head(1, ^exp) + wholeItem(n.Neg, n.Digits)
	}
	return x("c482") + head(0, exp) + wholeItem(n.Neg, n.Digits)
}

func wholeItem(neg bool, digits string) string {
	m, _ := new(big.Int).SetString(digits, 10)
	major, mark := 0, "\xc2"
	if neg {
		major, mark = 1, "\xc3"
		m.Sub(m, big.NewInt(1))
	}
	if m.IsUint64() {
		return head(major, m.Uint64())
	}
	return mark + head(2, uint64(len(m.Bytes()))) + string(m.Bytes())
}

// wantWritten asks Write for a value's document.
func wantWritten(t *testing.T, v api.Value, want string) {
	t.Helper()
	if b, e := cbor.Write(v); e != api.OK || string(b) != want {
		t.Errorf("P8.1: Write = %s, %d, want %s", short(string(b)), e, short(want))
	}
}

// wantNotWritten asks Write for an error.
func wantNotWritten(t *testing.T, v api.Value, want api.Errno) {
	t.Helper()
	if b, e := cbor.Write(v); e != want || len(b) > 0 {
		t.Errorf("P8.1: Write = %s, %d, want %d", short(string(b)), e, want)
	}
}

// P8.1 of each Kind, and of the edges of the items.
func TestWriteKinds(t *testing.T) {
	forty := strings.Repeat("9", 40)
	for _, c := range []struct {
		v    api.Value
		want string
	}{
		{null, "f6"}, {flag(true), "f5"}, {flag(false), "f4"},
		{whole("0"), "00"}, {whole("1"), "01"}, {whole("23"), "17"}, {whole("24"), "1818"}, {whole("255"), "18ff"}, {whole("256"), "190100"}, {whole("65535"), "19ffff"}, {whole("65536"), "1a00010000"}, {whole("4294967295"), "1affffffff"}, {whole("4294967296"), "1b0000000100000000"}, {whole("18446744073709551615"), "1bffffffffffffffff"}, {whole("18446744073709551616"), "c249010000000000000000"},
		{whole("-1"), "20"}, {whole("-24"), "37"}, {whole("-25"), "3818"}, {whole("-256"), "38ff"}, {whole("-257"), "390100"}, {whole("-65536"), "39ffff"}, {whole("-65537"), "3a00010000"}, {whole("-4294967296"), "3affffffff"}, {whole("-4294967297"), "3b0000000100000000"}, {whole("-18446744073709551616"), "3bffffffffffffffff"}, {whole("-18446744073709551617"), "c349010000000000000000"},
		{whole(forty), "c2511d6329f1c35ca4bfabb9f560ffffffffff"}, {whole("-" + forty), "c3511d6329f1c35ca4bfabb9f560fffffffffe"}, {whole("1" + strings.Repeat("0", 39)), "c25102f050fe938943acc45f65568000000000"},
		{whole("1" + strings.Repeat("0", 40)), "c482182801"}, {whole("-1" + strings.Repeat("0", 40)), "c482182820"}, {whole("12" + strings.Repeat("0", 39)), "c48218270c"}, {number(api.Num{Digits: forty, Exp: 1}), "c48201c2511d6329f1c35ca4bfabb9f560ffffffffff"}, {number(api.Num{Digits: "1", Exp: 400}), "c48219019001"},
		{number(api.Num{Digits: "1", Exp: -1}), "c4822001"}, {number(api.Num{Neg: true, Digits: "1", Exp: -24}), "c4823720"}, {number(api.Num{Digits: "25", Exp: -25}), "c48238181819"}, {number(api.Num{Digits: "1", Exp: -400}), "c48239018f01"}, {number(api.Num{Neg: true, Digits: "18446744073709551617", Exp: -1}), "c48220c349010000000000000000"}, {number(api.Num{Neg: true, Digits: "18446744073709551616", Exp: -1}), "c482203bffffffffffffffff"}, {number(api.Num{Digits: "18446744073709551615", Exp: -1}), "c482201bffffffffffffffff"},
		{float(0), "f90000"}, {float(1 << 63), "f98000"}, {float(0x3ff8000000000000), "f93e00"}, {float(0x40effc0000000000), "f97bff"}, {float(0x40f0000000000000), "fa47800000"}, {float(0x7ff0000000000000), "f97c00"}, {float(0x7ff8040000000000), "f97e01"}, {float(0x7ff0000020000000), "fa7f800001"}, {float(0x7ff0000000000001), "fb7ff0000000000001"}, {float(1), "fb0000000000000001"}, {float(0x36a0000000000000), "fa00000001"}, {float(0x3e70000000000000), "f90001"}, {float(0x3fb999999999999a), "fb3fb999999999999a"},
		{text(""), "60"}, {text("a"), "6161"}, {text("\u00e9"), "62c3a9"}, {text(strings.Repeat("a", 23)), "77" + strings.Repeat("61", 23)}, {text(strings.Repeat("a", 24)), "7818" + strings.Repeat("61", 24)}, {text(strings.Repeat("a", 256)), "790100" + strings.Repeat("61", 256)},
		{raw(""), "40"}, {raw("\x00\xff"), "4200ff"}, {raw(strings.Repeat("\xff", 255)), "58ff" + strings.Repeat("ff", 255)}, {raw(strings.Repeat("\xff", 4096)), "591000" + strings.Repeat("ff", 4096)},
		{list(), "80"}, {list(null), "81f6"}, {list(list(), list(whole("1"), whole("2"))), "8280820102"}, {list(nulls(23)...), "97" + strings.Repeat("f6", 23)}, {list(nulls(24)...), "9818" + strings.Repeat("f6", 24)}, {list(nulls(256)...), "990100" + strings.Repeat("f6", 256)},
		{record(""), "a0"}, {record("a", null), "a16161f6"}, {record("b a", list(), record("")), "a2616280" + "6161a0"}, {record("$tag", null), "a16424746167f6"},
		{tag("", null), "d81b8260f6"}, {tag("ab", tag("$t", list())), "d81b82626162d81b8262247480"},
	} {
		want := x(c.want)
		wantWritten(t, c.v, want)
		wantWritten(t, list(c.v, c.v), "\x82"+want+want)
		wantWritten(t, record("a b", c.v, c.v), "\xa2\x61a"+want+"\x61b"+want)
		wantWritten(t, tag("t", c.v), "\xd8\x1b\x82\x61t"+want)
	}
}

func nulls(n int) []api.Value {
	l := make([]api.Value, n)
	for i := range l {
		l[i] = null
	}
	return l
}

// P8.1 of numbers of all lengths, and of values of all kinds, one in another.
func TestWriteSome(t *testing.T) {
	r := rand.New(rand.NewSource(81))
	for _, v := range scalars() {
		wantWritten(t, v, document(v))
	}
	for range 20000 {
		n := api.Num{Neg: r.Intn(2) == 0, Exp: r.Intn(801) - 400}
		if r.Intn(2) == 0 {
			n.Exp = r.Intn(45)
		}
		for range r.Intn(40) {
			n.Digits += string(rune('0' + r.Intn(10)))
		}
		n.Digits = strings.TrimLeft(n.Digits, "0") + string(rune('1'+r.Intn(9)))
		wantWritten(t, number(n), document(number(n)))
	}
	for range 3000 {
		v := someValue(r, 6)
		wantWritten(t, v, document(v))
	}
}

// P8.1: what is no value, and what is not within the limits, also where its document would be too long.
func TestWriteRefused(t *testing.T) {
	long := make([]api.Value, 17)
	for i := range long {
		long[i] = text(strings.Repeat("a", 4096))
	}
	deep := null
	for range 16 {
		deep = tag("t", deep)
	}
	for _, c := range []struct {
		v    api.Value
		want api.Errno
	}{
		{api.Value{}, api.ErrValueForm}, {api.Value{Kind: 10}, api.ErrValueForm}, {api.Value{Kind: -1}, api.ErrValueForm}, {api.Value{Kind: api.KindNull, Text: "a"}, api.ErrValueForm},
		{text("\xff"), api.ErrValueForm}, {text("\xed\xa0\x80"), api.ErrValueForm}, {tag("\x80", null), api.ErrValueForm}, {record("a a", null, null), api.ErrValueForm}, {record("a", null, null), api.ErrValueForm}, {record("a b", null), api.ErrValueForm},
		{number(api.Num{}), api.ErrValueForm}, {number(api.Num{Digits: "10"}), api.ErrValueForm}, {number(api.Num{Digits: "1", Exp: 401}), api.ErrValueForm}, {number(api.Num{Digits: "x"}), api.ErrValueForm}, {api.Value{Kind: api.KindTag}, api.ErrValueForm},
		{list(append(long, api.Value{})...), api.ErrValueForm}, {list(text(strings.Repeat("a", 4097)), api.Value{}), api.ErrValueForm},
		{text(strings.Repeat("a", 4097)), api.ErrLimit}, {raw(strings.Repeat("a", 4097)), api.ErrLimit}, {tag(strings.Repeat("a", 65), null), api.ErrLimit}, {record(strings.Repeat("a", 65), null), api.ErrLimit}, {deep, api.ErrLimit},
		{list(nulls(257)...), api.ErrLimit}, {list(long...), api.ErrLimit},
	} {
		wantNotWritten(t, c.v, c.want)
		wantNotWritten(t, list(null, c.v), c.want)
		wantNotWritten(t, tag("t", c.v), c.want)
	}
}

// filled is a list with v at its end, whose document has n bytes in all.
func filled(v api.Value, n int) api.Value {
	var l []api.Value
	for n -= 1 + len(document(v)); n > 0; {
		k := min(n-3, 4096)
		if rest := n - k - 3; rest > 0 && rest < 300 {
			k -= 300
		}
		l = append(l, raw(strings.Repeat("a", k)))
		n -= len(document(l[len(l)-1]))
	}
	return list(append(l, v)...)
}

// P8.1: documents that just have 65536 bytes, and one more, whatever stands at their end.
func TestWriteLong(t *testing.T) {
	for _, v := range []api.Value{
		null, flag(true), flag(false), whole("12"), whole("1000000"), whole("18446744073709551616"), number(api.Num{Neg: true, Digits: "15", Exp: 400}), float(1), float(0), text(""), text("a"), text("\u00e9"), raw(""), raw("ab"), list(), list(null), list(list()), record(""), record("a", null), record("a b", null, list()), tag("t", null), tag("t", tag("u", raw("\xff"))), raw(strings.Repeat("\x01", 4096)),
	} {
		for n := 65530; n < 65545; n++ {
			w := filled(v, n)
			s := document(w)
			if len(s) != n {
				t.Fatalf("filled: %d bytes, want %d", len(s), n)
			}
			if n > 65536 {
				wantNotWritten(t, w, api.ErrLimit)
			} else {
				wantWritten(t, w, s)
			}
		}
	}
	wide := list()
	for range 15 {
		wide.List = append(wide.List, text(strings.Repeat("\x00", 4096)))
	}
	wantWritten(t, wide, document(wide))
	for range 7 {
		wide = list(wide, wide)
	}
	wantNotWritten(t, wide, api.ErrLimit)
}
