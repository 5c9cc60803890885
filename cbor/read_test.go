package cbor_test

import (
	"math/big"
	"math/rand"
	"strings"
	"testing"

	"calamus/api"
	"calamus/cbor"
)

// wantRead asks Read for a value, and the reader for its events.
func wantRead(t *testing.T, s string, want api.Value) {
	t.Helper()
	if v, e := cbor.Read([]byte(s)); e != api.OK || !same(v, want) {
		t.Errorf("P8.2: Read(%s) = %v, %d, want %v", short(s), v, e, want)
	}
	ask(t, s)
}

// wantError asks Read and the reader for this error.
func wantError(t *testing.T, s string, want api.Errno) {
	t.Helper()
	if e := ask(t, s); e != want {
		t.Errorf("P8.2: Read(%s) = %d, want %d", short(s), e, want)
	}
}

// wantNone asks Read and the reader for an error that they may answer of what is no document.
func wantNone(t *testing.T, s string) {
	t.Helper()
	if e := ask(t, s); !mayRefuse(s, e) {
		t.Errorf("P8.2: Read(%s) = %d", short(s), e)
	}
}

// P8.2 of each item, with heads that are short and that are not, in parts and not.
func TestReadKinds(t *testing.T) {
	for digits, want := range map[string]api.Value{
		"f6": null, "f5": flag(true), "f4": flag(false),
		"00": whole("0"), "17": whole("23"), "18 00": whole("0"), "18 17": whole("23"), "18 18": whole("24"), "18 ff": whole("255"), "19 00 00": whole("0"), "19 00 01": whole("1"), "19 01 00": whole("256"), "1a 00 00 00 05": whole("5"), "1a ff ff ff ff": whole("4294967295"), "1b 00 00 00 00 00 00 00 00": whole("0"), "1b 00 00 00 00 00 00 03 e8": whole("1000"), "1b ff ff ff ff ff ff ff ff": whole("18446744073709551615"),
		"20": whole("-1"), "37": whole("-24"), "38 00": whole("-1"), "38 09": whole("-10"), "39 00 00": whole("-1"), "3a 00 00 00 63": whole("-100"), "3b 00 00 00 00 00 00 00 00": whole("-1"), "3b ff ff ff ff ff ff ff ff": whole("-18446744073709551616"), "3b ff ff ff ff ff ff ff fe": whole("-18446744073709551615"),
		"c2 40": whole("0"), "c3 40": whole("-1"), "c2 41 00": whole("0"), "c3 41 00": whole("-1"), "c2 41 05": whole("5"), "c3 41 05": whole("-6"), "c3 41 63": whole("-100"), "c2 42 00 05": whole("5"), "c2 49 01 00 00 00 00 00 00 00 00": whole("18446744073709551616"), "c3 49 01 00 00 00 00 00 00 00 00": whole("-18446744073709551617"), "c3 48 ff ff ff ff ff ff ff ff": whole("-18446744073709551616"), "c2 58 01 05": whole("5"), "c2 5b 00 00 00 00 00 00 00 01 05": whole("5"), "c2 5f ff": whole("0"), "c3 5f ff": whole("-1"), "c2 5f 41 01 41 00 ff": whole("256"), "c2 5f 40 42 00 00 40 58 01 01 40 ff": whole("1"), "c3 5f 41 01 41 00 ff": whole("-257"),
		"d8 02 41 05": whole("5"), "d9 00 03 41 05": whole("-6"), "da 00 00 00 02 41 05": whole("5"), "db 00 00 00 00 00 00 00 03 40": whole("-1"),
		"c4 82 00 00": whole("0"), "c4 82 00 05": whole("5"), "c4 82 20 0f": number(api.Num{Digits: "15", Exp: -1}), "c4 82 20 2e": number(api.Num{Neg: true, Digits: "15", Exp: -1}), "c4 82 20 0a": whole("1"), "c4 82 21 18 64": whole("1"), "c4 82 02 18 64": whole("10000"), "c4 82 19 01 90 01": number(api.Num{Digits: "1", Exp: 400}), "c4 82 39 01 8f 01": number(api.Num{Digits: "1", Exp: -400}), "c4 82 39 01 90 0a": number(api.Num{Digits: "1", Exp: -400}), "c4 82 1b 00 00 00 00 00 00 00 01 01": whole("10"), "c4 98 02 01 01": whole("10"), "c4 9b 00 00 00 00 00 00 00 02 01 01": whole("10"), "c4 9f 01 01 ff": whole("10"), "c4 9f 21 c2 5f 41 05 ff ff": number(api.Num{Digits: "5", Exp: -2}), "c4 82 20 c2 41 0f": number(api.Num{Digits: "15", Exp: -1}), "c4 82 20 c3 41 0e": number(api.Num{Neg: true, Digits: "15", Exp: -1}), "c4 82 01 c3 40": whole("-10"), "c4 82 01 c2 40": whole("0"), "d8 04 82 01 01": whole("10"), "d9 00 04 9f 01 d8 02 41 01 ff": whole("10"),
		"c4 82 1b ff ff ff ff ff ff ff ff 00": whole("0"), "c4 82 3b ff ff ff ff ff ff ff ff 00": whole("0"), "c4 82 19 01 91 c2 40": whole("0"), "c4 82 39 ff ff c2 41 00": whole("0"), "c4 9f 1a ff ff ff ff 18 00 ff": whole("0"),
		"f9 3c 00": float(0x3ff0000000000000), "f9 00 01": float(0x3e70000000000000), "f9 7e 01": float(0x7ff8040000000000), "f9 fc 00": float(0xfff0000000000000), "fa 3f 80 00 00": float(0x3ff0000000000000), "fa 7f 80 00 01": float(0x7ff0000020000000), "fa 00 00 00 01": float(0x36a0000000000000), "fb 3f f0 00 00 00 00 00 00": float(0x3ff0000000000000), "fb 00 00 00 00 00 00 00 00": float(0), "fb 7f f0 00 00 00 00 00 01": float(0x7ff0000000000001), "fb ff ff ff ff ff ff ff ff": float(0xffffffffffffffff), "f9 ff ff": float(0xfffffc0000000000),
		"60": text(""), "61 61": text("a"), "62 c3 a9": text("\u00e9"), "78 00": text(""), "79 00 01 61": text("a"), "7a 00 00 00 01 61": text("a"), "7b 00 00 00 00 00 00 00 01 61": text("a"), "7f ff": text(""), "7f 60 ff": text(""), "7f 61 61 62 c3 a9 60 78 01 62 ff": text("a\u00e9b"), "61 00": text("\x00"), "64 f0 9f 98 80": text("\U0001f600"),
		"40": raw(""), "41 ff": raw("\xff"), "58 01 61": raw("a"), "59 00 00": raw(""), "5b 00 00 00 00 00 00 00 02 01 02": raw("\x01\x02"), "5f ff": raw(""), "5f 40 ff": raw(""), "5f 41 c3 42 a9 00 ff": raw("\xc3\xa9\x00"), "5f 41 5f 41 ff ff": raw("\x5f\xff"),
		"80": list(), "98 00": list(), "9b 00 00 00 00 00 00 00 00": list(), "9f ff": list(), "81 f6": list(null), "98 01 f6": list(null), "9f f6 ff": list(null), "82 9f ff 80": list(list(), list()), "9f 9f 9f ff ff 81 80 ff": list(list(list()), list(list())), "9f 5f ff 7f ff bf ff ff": list(raw(""), text(""), record("")),
		"a0": record(""), "b8 00": record(""), "bb 00 00 00 00 00 00 00 00": record(""), "bf ff": record(""), "a1 61 61 00": record("a", whole("0")), "bf 61 61 00 61 62 a0 ff": record("a b", whole("0"), record("")), "a2 7f 61 61 61 62 ff 00 61 61 01": record("ab a", whole("0"), whole("1")), "b9 00 01 78 01 61 80": record("a", list()), "a1 60 00": {Kind: api.KindRecord, Names: []string{""}, List: []api.Value{whole("0")}}, "a1 61 61 a1 61 61 a1 61 61 a0": record("a", record("a", record("a", record("")))),
		"d8 1b 82 61 74 f6": tag("t", null), "d9 00 1b 82 61 74 f6": tag("t", null), "da 00 00 00 1b 82 60 f6": tag("", null), "db 00 00 00 00 00 00 00 1b 98 02 61 74 f6": tag("t", null), "d8 1b 9f 61 74 f6 ff": tag("t", null), "d8 1b 9f 7f 61 74 61 75 ff 9f ff ff": tag("tu", list()), "d8 1b 82 61 74 d8 1b 9f 61 75 c4 9f 20 01 ff ff": tag("t", tag("u", number(api.Num{Digits: "1", Exp: -1}))), "d8 1b 82 64 24 74 61 67 a0": tag("$tag", record("")),
	} {
		s := x(digits)
		wantRead(t, s, want)
		wantRead(t, "\x82"+s+s, list(want, want))
		wantRead(t, "\x9f"+s+s+"\xff", list(want, want))
		wantRead(t, "\xa2\x61a"+s+"\x62$a"+s, record("a $a", want, want))
		wantRead(t, "\xbf\x61a"+s+"\x62$a"+s+"\xff", record("a $a", want, want))
		wantRead(t, "\xd8\x1b\x82\x61t"+s, tag("t", want))
		wantRead(t, "\xd8\x1b\x9f\x61t"+s+"\xff", tag("t", want))
	}
}

// P8.2: what is no item at all, alone and within others.
func TestReadWrong(t *testing.T) {
	for _, digits := range []string{
		"", "18", "19", "19 00", "1a 00 00 00", "1b 00 00 00 00 00 00 00", "1c", "1d", "1e", "1f", "1f ff", "1c 00", "38", "39 00", "3b", "3c", "3d", "3e", "3f", "3f ff",
		"41", "42 00", "58", "58 01", "59 00", "59 01 00 00", "5a 00 00 00 01", "5b 00 00 00 00 00 00 00 01", "5b ff ff ff ff ff ff ff ff 00", "5c", "5d", "5e", "5f", "5f 40", "5f 41", "5f 41 00", "5f 00 ff", "5f 60 ff", "5f 61 61 ff", "5f 5f ff ff", "5f 7f ff ff", "5f 80 ff", "5f 81 40 ff", "5f c2 40 ff", "5f f6 ff", "5f 40 18 00 ff", "5f ff ff", "5f 5c ff", "5f 1f ff", "5f d8 1b ff",
		"61", "61 ff", "61 80", "61 c3", "62 c3", "62 c3 28", "62 c0 80", "63 ed a0 80", "64 f4 90 80 80", "63 e2 82", "62 e2 82", "78", "78 01", "7b ff ff ff ff ff ff ff ff 61", "7c", "7d", "7e", "7f", "7f 60", "7f 61 61", "7f 40 ff", "7f 41 61 ff", "7f 7f ff ff", "7f 5f ff ff", "7f 00 ff", "7f 61 c3 61 a9 ff", "7f 62 e2 82 61 ac ff", "7f 61 ff ff", "7f 61 61 61 80 ff", "7f 80 ff", "7f f6 ff", "7f 61 61 00 ff",
		"81", "82 00", "83 00 00", "98", "98 01", "98 02 00", "9b ff ff ff ff ff ff ff ff", "9b ff ff ff ff ff ff ff ff 00 00", "99 01 01 00 00", "9c", "9d", "9e", "9f", "9f 00", "9f 9f ff", "9f 81 ff", "81 ff", "82 00 ff", "80 ff", "81 00 ff", "9f ff ff",
		"a1", "a1 61 61", "a1 00 00", "a1 40 00", "a1 41 61 00", "a1 f6 00", "a1 80 00", "a1 a0 00", "a1 c2 40 00", "a1 d8 1b 82 61 74 f6 00", "a1 61 ff 00", "a1 61 61 ff", "a1 ff", "a2 61 61 00", "a2 61 61 00 61 62", "b8", "b8 01", "bb ff ff ff ff ff ff ff ff 61 61 00", "bc", "bd", "be", "bf", "bf 61 61", "bf 61 61 ff", "bf 61 61 00", "bf 00 00 ff", "bf 00 ff", "bf 61 61 00 61 62 ff", "a0 ff", "a1 61 61 00 ff", "bf ff ff", "a1 5f ff 00", "a1 7f ff", "a1 7f 41 61 ff 00", "a1 f9 00 00 00", "bf 7f 61 61 00 ff",
		"a2 61 61 00 61 61 00", "a2 60 00 60 00", "bf 61 61 00 61 61 00 ff", "a2 61 61 00 7f 61 61 ff 00", "a3 61 61 00 61 62 00 61 61 00", "a2 61 61 00 78 01 61 00", "a1 61 61 a2 61 61 00 61 61 00", "a2 61 61 a1 61 61 00 61 61 00", "a2 62 c3 a9 00 7f 62 c3 a9 ff 00",
		"c0 00", "c0", "c1 00", "c1 1a 00 00 00 00", "c5 82 00 00", "c6 40", "cf 00", "d7 00", "d8 00", "d8", "d8 00 00", "d8 01 40", "d8 18 40", "d8 1a 82 61 74 f6", "d8 1c 82 61 74 f6", "d9 1b 00 82 61 74 f6", "d9 d9 f7 00", "dc", "dd", "de", "df", "df ff", "db ff ff ff ff ff ff ff ff 00", "da 01 00 00 02 40",
		"c2", "c2 00", "c2 20", "c2 60", "c2 61 61", "c2 80", "c2 a0", "c2 c2 40", "c2 c3 40", "c2 f6", "c2 f9 00 00", "c2 41", "c2 5f", "c2 5f 41", "c2 5f 60 ff", "c2 5f 61 00 ff", "c2 5f 00 ff", "c2 7f ff", "c2 ff", "c2 5f 5f ff ff", "c3", "c3 00", "c3 61 00", "c3 c4 82 00 00", "c2 d8 1b 82 61 74 40", "c2 40 00", "c2 5f 40", "d8 02", "d8 02 00", "df 02 40",
		"c4", "c4 00", "c4 40", "c4 80", "c4 81 00", "c4 83 00 00 00", "c4 82", "c4 82 00", "c4 9f ff", "c4 9f 00 ff", "c4 9f 00 00", "c4 9f 00 00 00 ff", "c4 9f ff 00 00", "c4 82 00 00 ff", "c4 a1 00 00", "c4 bf 00 00 ff", "c4 82 c2 40 00", "c4 82 c3 40 00", "c4 82 c2 40 c2 40", "c4 82 60 00", "c4 82 40 00", "c4 82 f6 00", "c4 82 80 00", "c4 82 00 f6", "c4 82 00 60", "c4 82 00 40", "c4 82 00 80", "c4 82 00 c4 82 00 00", "c4 82 c4 82 00 00 00", "c4 82 00 d8 1b 82 61 74 00", "c4 82 f9 00 00 00", "c4 82 00 f9 00 00", "c4 82 00 c2", "c4 82 00 c2 00", "c4 82 00 c5 40", "c4 82 00 c4 40", "c4 82 18", "c4 82 1f 00", "c4 98 03 00 00 00", "c4 9b 00 00 00 01 00 00 00 02 00 00", "c4 c4 82 00 00", "c4 82 00 c2 60", "c4 82 00 c2 5f 41 00", "c4 82 ff 00", "c4 82 00 ff", "c4 9f 00 c2 ff ff", "c4 82 00 c2 c2 40",
		"d8 1b", "d8 1b 00", "d8 1b 60", "d8 1b 61 74", "d8 1b a1 61 74 f6", "d8 1b 80", "d8 1b 81 61 74", "d8 1b 82", "d8 1b 82 61", "d8 1b 82 61 74", "d8 1b 83 61 74 f6 f6", "d8 1b 82 00 00", "d8 1b 82 40 00", "d8 1b 82 f6 f6", "d8 1b 82 80 f6", "d8 1b 82 41 74 f6", "d8 1b 82 61 ff f6", "d8 1b 9f ff", "d8 1b 9f 61 74 ff", "d8 1b 9f 61 74 f6", "d8 1b 9f 61 74 f6 f6 ff", "d8 1b 9f 61 74 f6 f6", "d8 1b 9f 00 00 ff", "d8 1b bf 61 74 f6 ff", "d8 1b 82 61 74 f6 ff", "d8 1b d8 1b 82 61 74 f6", "d8 1b 82 d8 1b 82 61 74 f6 f6", "d8 1b 82 61 74 ff", "d8 1b c4 82 00 00", "d8 1b 98 03 61 74 f6 f6", "d8 1b 9b 00 00 00 01 00 00 00 02 61 74 f6", "d8 1b 82 c2 40 f6", "d8 1b 9f 7f 61 74 ff ff",
		"e0", "e1", "f0", "f3", "f7", "f8", "f8 00", "f8 14", "f8 15", "f8 16", "f8 18", "f8 20", "f8 ff", "f9", "f9 00", "fa 00 00 00", "fb 00 00 00 00 00 00 00", "fc", "fd", "fe", "ff", "ff 00", "f9 00 14 ff", "fc 00", "fe ff",
		"00 00", "f6 f6", "80 80", "00 ff", "f6 1f", "60 60", "40 00", "c2 40 40", "fb 00 00 00 00 00 00 00 00 00",
	} {
		s := x(digits)
		wantNone(t, s)
		for _, around := range [][2]string{{"81", ""}, {"9f", "ff"}, {"82 00", ""}, {"82", "00"}, {"9f 00", "ff"}, {"a1 61 61", ""}, {"a2 61 61", "61 62 00"}, {"bf 61 61", "ff"}, {"d8 1b 82 61 74", ""}, {"d8 1b 9f 61 74", "ff"}, {"81 81 81 81 81 81 81 81 81 81 81 81 81 81 81", ""}, {"c4 82 00", ""}, {"c2", ""}, {"5f", "ff"}, {"7f", "ff"}} {
			wrapped := x(around[0]) + s + x(around[1])
			if !reckon([]byte(wrapped)).document { // a list around two items makes one of them
				wantNone(t, wrapped)
			}
		}
	}
}

// P8.2: first bytes of heads that there are not, whatever stands behind them.
func TestReadNoHeads(t *testing.T) {
	for _, low := range []int{0x1c, 0x1d, 0x1e} {
		for major := range 8 {
			for n := range 70 {
				for _, c := range []string{"\x00", "\x01", "\x40", "\xff"} {
					s := string([]byte{byte(major*0x20 + low)}) + strings.Repeat(c, n)
					wantNone(t, s)
					wantNone(t, "\x81"+s)
				}
			}
		}
	}
}

// P8.2 of all rows of one, two and three bytes, and of all rows of few pieces.
func TestReadAllShort(t *testing.T) {
	seen := map[api.Errno]int{}
	for n := range 1 << 16 {
		s := string([]byte{byte(n >> 8), byte(n)})
		seen[ask(t, s)]++
		seen[ask(t, s[:1])]++
		for _, c := range []string{"\x00", "\xff", "\x41", "\x80"} {
			seen[ask(t, s+c)]++
		}
	}
	pieces := []string{x("00"), x("20"), x("40"), x("4105"), x("5f"), x("60"), x("6161"), x("7f"), x("82"), x("9f"), x("a1"), x("bf"), x("c2"), x("c3"), x("c4"), x("d81b"), x("f6"), x("ff"), x("c48219019101"), x("990101")}
	var each func(s string, n int)
	each = func(s string, n int) {
		seen[ask(t, s)]++
		for _, p := range pieces {
			if n > 0 {
				each(s+p, n-1)
			}
		}
	}
	each("", 3)
	for _, digits := range []string{"c4", "c482", "c49f", "c48200", "c49f20", "c49f20c2", "c49f20c25f", "d81b", "d81b9f", "d81b826174", "bf6161", "bf7f", "9f5f", "a2616100", "9fc48219019101", "82c48219019101", "bf6161c48219019101", "d81b9f60c48219019101"} {
		each(x(digits), 2)
	}
	if seen[api.OK] < 1000 || seen[api.ErrLimit] < 50 || seen[api.ErrCbor] < 10000 {
		t.Errorf("too few of some: %v", seen)
	}
}

// someHead is a head of any width that will do.
func someHead(r *rand.Rand, major int, n uint64) string {
	widths := []int{8}
	for _, w := range []int{1, 2, 4} {
		if n>>(8*w) == 0 {
			widths = append(widths, w)
		}
	}
	if n <= 0x17 {
		widths = append(widths, 0, 0)
	}
	return headOf(major, n, widths[r.Intn(len(widths))])
}

// someRow is a text or bytes, perhaps in parts.
func someRow(r *rand.Rand, major int, s string) string {
	if r.Intn(3) > 0 {
		return someHead(r, major, uint64(len(s))) + s
	}
	out := string([]byte{byte(major*0x20 + 0x1f)})
	for s != "" || r.Intn(3) == 0 {
		n := r.Intn(len(s) + 1)
		for major == 3 && n < len(s) && s[n]&0xc0 == 0x80 {
			n++
		}
		out += someHead(r, major, uint64(n)) + s[:n]
		s = s[n:]
	}
	return out + "\xff"
}

// someItems are what stands in a list or a record, with the head, perhaps in parts.
func someItems(r *rand.Rand, major, n int, within string) string {
	if r.Intn(3) > 0 {
		return someHead(r, major, uint64(n)) + within
	}
	return string([]byte{byte(major*0x20 + 0x1f)}) + within + "\xff"
}

// someWhole is a whole number's item, or a big number's.
func someWhole(r *rand.Rand, m *big.Int) string {
	major := 0
	if m.Sign() < 0 {
		major, m = 1, new(big.Int).Not(m)
	}
	if m.IsUint64() && r.Intn(2) == 0 {
		return someHead(r, major, m.Uint64())
	}
	return someHead(r, 6, uint64(2+major)) + someRow(r, 2, strings.Repeat("\x00", r.Intn(3))+string(m.Bytes()))
}

// isNumber tells whether m is one, and, if it is below 0, the bytes of its item too.
func isNumber(m *big.Int) bool {
	if m.Sign() < 0 {
		return isNumber(new(big.Int).Abs(m)) && isNumber(new(big.Int).Not(m))
	}
	all := m.String()
	digits := strings.TrimRight(all, "0")
	return len(digits) <= 40 && len(all)-len(digits) <= 400
}

// someNumber is any item of a number.
func someNumber(r *rand.Rand, n api.Num) string {
	shift := func(m *big.Int, exp int) *big.Int {
		return new(big.Int).Mul(m, new(big.Int).Exp(big.NewInt(10), big.NewInt(int64(exp)), nil))
	}
	m := digits(n.Digits)
	if n.Neg {
		m.Neg(m)
	}
	if n.Exp >= 0 && r.Intn(2) == 0 && isNumber(shift(m, n.Exp)) {
		return someWhole(r, shift(m, n.Exp))
	}
	more := r.Intn(5)
	for !isNumber(shift(m, more)) {
		more--
	}
	exp := int64(n.Exp - more)
	if m.Sign() == 0 {
		exp = int64(r.Uint64())
	}
	power := someHead(r, 0, uint64(exp))
	if exp < 0 {
		power = someHead(r, 1, ^uint64(exp))
	}
	return someHead(r, 6, 4) + someItems(r, 4, 2, power+someWhole(r, shift(m, more)))
}

// someFloat is any item of a float.
func someFloat(r *rand.Rand, b uint64) string {
	v := document(float(b))
	if len(v) < 9 && r.Intn(2) == 0 {
		return headOf(7, b, 8)
	}
	return v
}

// loose is one of a value's documents.
func loose(r *rand.Rand, v api.Value) string {
	within := ""
	for i, w := range v.List {
		if v.Kind == api.KindRecord {
			within += someRow(r, 3, v.Names[i])
		}
		within += loose(r, w)
	}
	switch v.Kind {
	case api.KindNum:
		return someNumber(r, v.Num)
	case api.KindFloat:
		return someFloat(r, v.Bits)
	case api.KindText:
		return someRow(r, 3, v.Text)
	case api.KindBytes:
		return someRow(r, 2, v.Text)
	case api.KindList:
		return someItems(r, 4, len(v.List), within)
	case api.KindRecord:
		return someItems(r, 5, len(v.List), within)
	case api.KindTag:
		return someHead(r, 6, 0x1b) + someItems(r, 4, 2, someRow(r, 3, v.Text)+within)
	}
	return document(v)
}

// P8.2 of documents that are changed in some places.
func TestReadChanged(t *testing.T) {
	r := rand.New(rand.NewSource(82))
	pieces := []string{"", "\x00", "\x20", "\x18", "\x1b", "\x40", "\x41", "\x5f", "\x60", "\x61", "\x7f", "\x80", "\x82", "\x9f", "\xa0", "\xa1", "\xbf", "\xc2", "\xc3", "\xc4", "\xd8\x1b", "\xd8", "\xf6", "\xf9", "\xff", "\xff\xff", x("c48219019101"), x("c482390bb801"), x("990101"), x("c4823b000000000000018f01")}
	seen := map[api.Errno]int{}
	for range 40000 {
		s := loose(r, someValue(r, 5))
		for range r.Intn(3) {
			at := r.Intn(len(s) + 1)
			to := min(at+r.Intn(3), len(s))
			s = s[:at] + pieces[r.Intn(len(pieces))] + s[to:]
		}
		seen[ask(t, s)]++
	}
	if seen[api.OK] < 1000 || seen[api.ErrLimit] < 100 || seen[api.ErrCbor] < 1000 {
		t.Errorf("too few of some: %v", seen)
	}
}
