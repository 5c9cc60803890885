package pack_test

import (
	"math/rand"
	"strconv"
	"strings"
	"testing"

	"calamus/api"
	"calamus/pack"
)

// wantRead asks Read for a value, and the reader for its events.
func wantRead(t *testing.T, s string, want api.Value) {
	t.Helper()
	if v, e := pack.Read([]byte(s)); e != api.OK || !same(v, want) {
		t.Errorf("P9.2: Read(%s) = %v, %d, want %v", short(s), v, e, want)
	}
	ask(t, s)
}

// wantError asks Read and the reader for this error.
func wantError(t *testing.T, s string, want api.Errno) {
	t.Helper()
	if e := ask(t, s); e != want {
		t.Errorf("P9.2: Read(%s) = %d, want %d", short(s), e, want)
	}
}

// wantNone asks Read and the reader for an error that they may answer of what is no document.
func wantNone(t *testing.T, s string) {
	t.Helper()
	if e := ask(t, s); !mayRefuse(s, e) {
		t.Errorf("P9.2: Read(%s) = %d", short(s), e)
	}
}

// P9.2 of each item, in the shortest form and in longer ones.
func TestReadKinds(t *testing.T) {
	for s, want := range map[string]api.Value{
		x("c0"): null, x("c2"): flag(false), x("c3"): flag(true),
		x("00"): whole("0"), x("01"): whole("1"), x("7f"): whole("127"), x("ff"): whole("-1"), x("e0"): whole("-32"), x("e1"): whole("-31"),
		x("cc00"): whole("0"), x("cc05"): whole("5"), x("cc80"): whole("128"), x("ccff"): whole("255"), x("cd0000"): whole("0"), x("cd0100"): whole("256"), x("cdffff"): whole("65535"), x("ce00000005"): whole("5"), x("ceffffffff"): whole("4294967295"), x("cf0000000000000000"): whole("0"), x("cf00000000000003e8"): whole("1000"), x("cf8000000000000000"): whole("9223372036854775808"), x("cfffffffffffffffff"): whole("18446744073709551615"),
		x("d000"): whole("0"), x("d07f"): whole("127"), x("d080"): whole("-128"), x("d0ff"): whole("-1"), x("d0e0"): whole("-32"), x("d10000"): whole("0"), x("d17fff"): whole("32767"), x("d18000"): whole("-32768"), x("d1ffff"): whole("-1"), x("d100ff"): whole("255"), x("d200000005"): whole("5"), x("d27fffffff"): whole("2147483647"), x("d280000000"): whole("-2147483648"), x("d2ffffffff"): whole("-1"), x("d2ffffff00"): whole("-256"), x("d30000000000000000"): whole("0"), x("d37fffffffffffffff"): whole("9223372036854775807"), x("d38000000000000000"): whole("-9223372036854775808"), x("d3ffffffffffffffff"): whole("-1"), x("d3fffffffffffffc18"): whole("-1000"),
		x("d401") + "7": whole("7"), x("d501") + "-7": whole("-7"), x("d601") + "1.50": decimal("15", -1), x("d601") + "1e21": decimal("1", 21), x("d701") + "0.000000": whole("0"), x("d801") + "1234567890123456": whole("1234567890123456"), x("d801") + "-1.5000000000E+2": whole("-150"), x("c70101") + "0": whole("0"), x("c70201") + "-0": whole("0"), x("c70301") + "1.5": decimal("15", -1), x("c8000101") + "7": whole("7"), x("c90000000101") + "7": whole("7"), x("c8020001") + "1." + strings.Repeat("0", 510): whole("1"), x("c70401") + "1e-1": decimal("1", -1), x("c70501") + "1e400": decimal("1", 400), x("c70601") + "1e-400": decimal("1", -400), x("c70701") + "0e99999": whole("0"), x("c71401") + "18446744073709551616": whole("18446744073709551616"), x("c8000301") + "100": whole("100"),
		x("ca00000000"): float(0), x("ca80000000"): float(1 << 63), x("ca3f800000"): float(0x3ff0000000000000), x("ca7f800001"): float(0x7ff0000020000000), x("ca00000001"): float(0x36a0000000000000), x("caffffffff"): float(0xffffffffe0000000), x("cb3ff0000000000000"): float(0x3ff0000000000000), x("cb0000000000000000"): float(0), x("cb7ff0000000000001"): float(0x7ff0000000000001), x("cbffffffffffffffff"): float(0xffffffffffffffff), x("cb3fb999999999999a"): float(0x3fb999999999999a),
		x("a0"): text(""), x("a161"): text("a"), x("a2c3a9"): text("\u00e9"), x("a4f09f9880"): text("\U0001f600"), x("a100"): text("\x00"), x("d900"): text(""), x("d90161"): text("a"), x("da000161"): text("a"), x("da0000"): text(""), x("db0000000161"): text("a"), x("db00000000"): text(""), "\xbf" + strings.Repeat("a", 31): text(strings.Repeat("a", 31)), "\xa4$tag": text("$tag"), "\xa2$x": text("$x"),
		x("c400"): raw(""), x("c401ff"): raw("\xff"), x("c402c328"): raw("\xc3\x28"), x("c50000"): raw(""), x("c5000161"): raw("a"), x("c60000000161"): raw("a"), x("c600000000"): raw(""),
		x("90"): list(), x("dc0000"): list(), x("dd00000000"): list(), x("91c0"): list(null), x("dc0001c0"): list(null), x("dd00000001c0"): list(null), x("9290dc0000"): list(list(), list()), x("93a0c40080"): list(text(""), raw(""), record("")), x("9291909190"): list(list(list()), list(list())), "\x92\xa4$tag\x92\xa1t\xc0": list(text("$tag"), list(text("t"), null)),
		x("80"): record(""), x("de0000"): record(""), x("df00000000"): record(""), x("81a16100"): record("a", whole("0")), x("82a16100a16280"): record("a b", whole("0"), record("")), x("de0001d9016190"): record("a", list()), x("df00000001db000000016190"): record("a", list()), x("81a000"): {Kind: api.KindRecord, Names: []string{""}, List: []api.Value{whole("0")}}, x("81a16181a16181a16180"): record("a", record("a", record("a", record("")))),
		"\x81\xa2$$\x00": record("$", whole("0")), "\x81\xa5$$tag\x92\xa1t\xc0": record("$tag", list(text("t"), null)), "\x81\xa3$$x\x00": record("$x", whole("0")), "\x81\xa3$$$\x00": record("$$", whole("0")), "\x82\xa1a\x00\xa4$tag\x00": record("a $tag", whole("0"), whole("0")), "\x82\xa1a\x00\xa2$x\x00": record("a $x", whole("0"), whole("0")), "\x82\xa3$$a\x00\xa3$$a\x01": record("$a $$a", whole("0"), whole("1")), "\x83\xa1a\x00\xa1$\x00\xa2$$\x01": record("a $ $$", whole("0"), whole("0"), whole("1")), "\x82\xa3$$a\x00\xa1a\x01": record("$a a", whole("0"), whole("1")),
		"\x81\xa4$tag\x92\xa1t\xc0": tag("t", null), "\x81\xa4$tag\x92\xa0\xc0": tag("", null), "\xde\x00\x01\xa4$tag\x92\xa1t\xc0": tag("t", null), "\xdf\x00\x00\x00\x01\xd9\x04$tag\xdc\x00\x02\xd9\x01t\xc0": tag("t", null), "\x81\xda\x00\x04$tag\xdd\x00\x00\x00\x02\xdb\x00\x00\x00\x01t\xc0": tag("t", null), "\x81\xa4$tag\x92\xa4$tag\x80": tag("$tag", record("")), "\x81\xa4$tag\x92\xa1t\x81\xa4$tag\x92\xa1u\x92\xa1v\xc0": tag("t", tag("u", list(text("v"), null))),
	} {
		wantRead(t, s, want)
		wantRead(t, "\x92"+s+s, list(want, want))
		wantRead(t, "\xdc\x00\x02"+s+s, list(want, want))
		wantRead(t, "\x82\xa1a"+s+"\xa2$a"+s, record("a $a", want, want))
		wantRead(t, "\xde\x00\x02\xa2$$"+s+"\xa2$a"+s, record("$ $a", want, want))
		wantRead(t, "\x81\xa4$tag\x92\xa1t"+s, tag("t", want))
	}
}

// P9.2: what is no item at all, alone and within others.
func TestReadWrong(t *testing.T) {
	for _, s := range []string{
		"", x("c1"), x("c100"), x("cc"), x("cd"), x("cd00"), x("ce000000"), x("cf00000000000000"), x("d0"), x("d1ff"), x("d2000000"), x("d300000000000000"), x("ca000000"), x("cb00000000000000"), x("ca"), x("cb"),
		x("d4"), x("d401"), x("d40237"), x("d40037"), x("d4ff37"), x("d48137"), x("d5"), x("d501") + "7", x("d601") + "777", x("d701") + "7777777", x("d801") + "777777777777777", x("d602") + "1234", x("d802") + "12345678901234", x("c7"), x("c700"), x("c70001"), x("c70101"), x("c7010237"), x("c7010037"), x("c80001"), x("c8000101"), x("c800010237"), x("c90000000101"), x("c9000000010237"), x("c8000001"), x("c90000000001"), x("c700ff"), x("c70002"), x("c70137"), x("c7013701"),
		x("d401") + "a", x("d401") + "-", x("d401") + ".", x("d401") + " ", x("d40100"), x("d401") + "\xff", x("d501") + "01", x("d501") + "1.", x("d501") + ".5", x("d501") + "+1", x("d501") + "1e", x("d501") + "7 ", x("d501") + " 7", x("d501") + "0x", x("d601") + "1_00", x("d601") + "0x10", x("d601") + "null", x("d601") + "1e+-", x("c70301") + "NaN", x("c70301") + "Inf", x("c70301") + "1,5", x("c70301") + "1e ", x("d701") + "1e99999x", x("c70701") + "e999999",
		x("a1"), x("a261"), x("a1ff"), x("a180"), x("a1c3"), x("a2c328"), x("a2c080"), x("a3eda080"), x("a4f4908080"), x("a3e28261"), x("a2e282"), x("bf61"), x("d9"), x("d901"), x("d901ff"), x("da00"), x("da0001"), x("da0001ff"), x("da010061"), x("db000000"), x("db00000001"), x("db00000001ff"), x("dbffffffff61"), x("d90261"),
		x("c4"), x("c401"), x("c5"), x("c500"), x("c50001"), x("c5010000"), x("c6000000"), x("c600000001"), x("c6ffffffff00"),
		x("91"), x("9200"), x("9f0000"), x("dc"), x("dc00"), x("dc0001"), x("dc000200"), x("dcffff00"), x("dd000000"), x("dd00000001"), x("ddffffffff"), x("ddffffffff0000"), x("dd8000000000"), x("91c1"), x("9200c1"), x("92c100"),
		x("81"), x("81a1"), x("81a161"), x("82a16100"), x("82a16100a162"), x("8100"), x("810000"), x("81c000"), x("81c40161"), x("81c4016100"), x("819000"), x("818000"), x("81d4013700"), x("81ca0000000000"), x("81ff00"), x("81c300"), x("81a1ff00"), x("81a161c1"), x("8f"), x("de"), x("de00"), x("de0001"), x("de0001a161"), x("df000000"), x("dfffffffffa16100"), x("df00000001a161"), x("82a161000000"), x("82a16100c4016200"), x("82a161009000"), x("81d901"), x("81d901ff00"),
		x("82a16100a16100"), x("82a000a000"), x("83a16100a16200a16100"), x("82a16100d9016100"), x("81a16182a16100a16100"), x("82a16181a16100a16100"), x("82a2c3a900da0002c3a900"), "\x82\xa3$$a\x00\xa2$a\x00", "\x82\xa2$$\x00\xa1$\x00", "\x82\xa5$$tag\x00\xa4$tag\x00", "\x83\xa3$$a\x00\xa1a\x00\xa2$a\x00", "\x82\xa3$$$\x00\xa2$$\x00",
		"\x81\xa1$\x00", "\x81\xa2$x\x00", "\x81\xa3$ta\x00", "\x81\xa5$tags\x00", "\x81\xa4$TAG\x92\xa1t\xc0", "\x81\xa6$float\xa1a", "\x81\xa6$bytes\xa0", "\x82\xa2$x\x00\xa1a\x00", "\x82\xa1$\x00\xa2$$\x00", "\x81\xa3$\xc3\xa9\x00", "\x81\xa2$\xff\x00", "\x81\xa3$$\xff\x00", "\x81\xa3$ $\x00", "\x81\xd9\x02$x\x00",
		"\x81\xa4$tag", "\x81\xa4$tag\xc0", "\x81\xa4$tag\x00", "\x81\xa4$tag\xa1t", "\x81\xa4$tag\xc4\x01t", "\x81\xa4$tag\x80", "\x81\xa4$tag\x81\xa1t\xc0", "\x81\xa4$tag\x82\xa1t\xc0\xa1u\xc0", "\x81\xa4$tag\x90", "\x81\xa4$tag\x91", "\x81\xa4$tag\x91\xa1t", "\x81\xa4$tag\x92", "\x81\xa4$tag\x92\xa1", "\x81\xa4$tag\x92\xa1t", "\x81\xa4$tag\x93\xa1t\xc0\xc0", "\x81\xa4$tag\x92\x00\x00", "\x81\xa4$tag\x92\xc4\x01t\xc0", "\x81\xa4$tag\x92\xc0\xc0", "\x81\xa4$tag\x92\x90\xc0", "\x81\xa4$tag\x92\x80\xc0", "\x81\xa4$tag\x92\xa1\xff\xc0", "\x81\xa4$tag\x92\xd4\x017\xc0", "\x81\xa4$tag\xdc\x00\x01\xa1t", "\x81\xa4$tag\xdc\x00\x03\xa1t\xc0\xc0", "\x81\xa4$tag\xdc\x02\x00\xa1t\xc0", "\x81\xa4$tag\xdd\x00\x01\x00\x02\xa1t\xc0", "\x81\xa4$tag\xdc\x00\x00", "\x81\xa4$tag\xca\x00\x00\x00\x00", "\x81\xa4$tag\xd4\x017", "\x81\xa4$tag\x81\xa4$tag\x92\xa1t\xc0", "\x81\xa4$tag\x92\x81\xa4$tag\x92\xa1t\xc0\xc0", "\x81\xa4$tag\xff", "\x81\xa4$tag\xc1",
		"\x82\xa4$tag\x92\xa1t\xc0", "\x82\xa4$tag\x92\xa1t\xc0\xa1a\x00", "\x80\xa4$tag\x92\xa1t\xc0", "\xde\x00\x02\xa4$tag\x92\xa1t\xc0\xa1a\x00", "\xde\x01\x00\xa4$tag\x92\xa1t\xc0", "\x82\xa4$tag\x00\xa1a\x00", "\x82\xa4$tag\x92\xa1t\xc0\xa4$tag\x92\xa1t\xc0",
		x("0000"), x("c0c0"), x("9090"), x("00ff"), x("c0c1"), x("a0a0"), x("c40000"), x("ff00"), x("8080"), x("910000"), x("d4013700"),
	} {
		wantNone(t, s)
		for _, around := range [][2]string{{"91", ""}, {"9200", ""}, {"92", "00"}, {"dc0001", ""}, {"81a161", ""}, {"82a161", "a16200"}, {"82a16100", ""}, {"de0001a161", ""}, {"81", ""}, {"81", "00"}, {"81a42474616792a174", ""}, {"81a424746167", ""}, {"81a42474616792", "00"}, {"91919191919191919191919191", ""}} {
			wrapped := x(around[0]) + s + x(around[1])
			if !reckon([]byte(wrapped)).document { // a list around two items makes one of them
				wantNone(t, wrapped)
			}
		}
	}
}

// P9.2: the byte that begins nothing, and extensions of other kinds, whatever stands behind them.
func TestReadNoItems(t *testing.T) {
	for n := range 70 {
		for _, c := range []string{"\x00", "\x01", "1", "\xc0", "\xff"} {
			rest := strings.Repeat(c, n)
			wantNone(t, "\xc1"+rest)
			wantNone(t, "\x91\xc1"+rest)
			for kind := range 256 {
				if kind != 1 && (n < 20 || kind < 3 || kind > 253) {
					for i, width := range []int{1, 2, 4, 8, 16} {
						s := string([]byte{byte(0xd4 + i), byte(kind)}) + rest
						wantNone(t, s[:min(len(s), width+2)])
					}
					wantNone(t, headOf(0xc7, uint64(n), 1)+string([]byte{byte(kind)})+rest)
				}
			}
		}
	}
}

// P9.2 of all rows of one and two bytes, some of three, and of all rows of few pieces.
func TestReadAllShort(t *testing.T) {
	seen := map[api.Errno]int{}
	for n := range 1 << 16 {
		s := string([]byte{byte(n >> 8), byte(n)})
		seen[ask(t, s)]++
		seen[ask(t, s[:1])]++
		for _, c := range []string{"\x00", "\xff", "1", "\xa0", "\xc0"} {
			seen[ask(t, s+c)]++
		}
	}
	pieces := []string{"\x00", "\xff", "\xc0", "\xcc\x05", "\xa0", "\xa1a", "\xa4$tag", "\xa2$$", "\xa2$x", "\xc4\x01a", "\x90", "\x92", "\x80", "\x81", "\x82", "\xdc\x00\x02", "\xde\x00\x01", "\xd4\x017", "\xc7\x05\x011e401", "\xdc\x01\x01", "\xc1"}
	var each func(s string, n int)
	each = func(s string, n int) {
		seen[ask(t, s)]++
		for _, p := range pieces {
			if n > 0 {
				each(s+p, n-1)
			}
		}
	}
	each("", 3)
	for _, s := range []string{"\x81\xa4$tag", "\x81\xa4$tag\x92", "\x81\xa4$tag\x92\xa1t", "\x82\xa1a\x00", "\x82\xa2$$", "\x82\xa1a\x81", "\x92\xc7\x05\x011e401", "\x82\xa1a\xc7\x05\x011e401", "\x91\x81\xa4$tag", "\x92\x81\xa4$tag\x92\xa0\xc0"} {
		each(s, 3)
	}
	if seen[api.OK] < 1000 || seen[api.ErrLimit] < 50 || seen[api.ErrPack] < 10000 {
		t.Errorf("too few of some: %v", seen)
	}
}

// someHead is the shortest head, or one with more bytes: first is the one for least bytes.
func someHead(r *rand.Rand, short string, first, least, n int) string {
	l := []string{short}
	for width := least; width <= 4; width, first = 2*width, first+1 {
		if n>>(8*width) == 0 {
			l = append(l, headOf(first, uint64(n), width))
		}
	}
	return l[r.Intn(len(l))]
}

// someText is any item of a text.
func someText(r *rand.Rand, s string) string {
	return someHead(r, textHead(len(s)), 0xd9, 1, len(s)) + s
}

// someDigits is any text of a number.
func someDigits(r *rand.Rand, n api.Num) string {
	digits, exp := n.Digits, n.Exp
	for range r.Intn(4) {
		digits, exp = digits+"0", exp-1
	}
	if n.Digits == "0" {
		digits, exp = "0", r.Intn(9999)
	}
	sign := ""
	if n.Neg || n.Digits == "0" && r.Intn(2) == 0 {
		sign = "-"
	}
	point := 1 + r.Intn(len(digits))
	s := sign + digits[:point]
	if point < len(digits) {
		s += "." + digits[point:]
		exp += len(digits) - point
	}
	if exp == 0 && r.Intn(2) == 0 {
		return s
	}
	s += []string{"e", "E"}[r.Intn(2)]
	if exp < 0 {
		return s + "-" + strings.Repeat("0", r.Intn(3)) + strconv.Itoa(-exp)
	}
	return s + []string{"", "+"}[r.Intn(2)] + strings.Repeat("0", r.Intn(3)) + strconv.Itoa(exp)
}

// loose is one of a value's documents.
func loose(r *rand.Rand, v api.Value) string {
	within := ""
	for i, w := range v.List {
		if v.Kind == api.KindRecord {
			name := v.Names[i]
			if i == 0 && strings.HasPrefix(name, "$") {
				name = "$" + name
			}
			within += someText(r, name)
		}
		within += loose(r, w)
	}
	n := len(v.List)
	switch v.Kind {
	case api.KindNum:
		l := append(wholeItems(v.Num), extensions(someDigits(r, v.Num))...)
		return l[r.Intn(len(l))]
	case api.KindFloat:
		return []string{document(v), headOf(0xcb, v.Bits, 8)}[r.Intn(2)]
	case api.KindText:
		return someText(r, v.Text)
	case api.KindBytes:
		return someHead(r, bytesHead(len(v.Text)), 0xc4, 1, len(v.Text)) + v.Text
	case api.KindList:
		return someHead(r, listHead(n), 0xdc, 2, n) + within
	case api.KindRecord:
		return someHead(r, recordHead(n), 0xde, 2, n) + within
	case api.KindTag:
		return someHead(r, "\x81", 0xde, 2, 1) + someText(r, "$tag") + someHead(r, "\x92", 0xdc, 2, 2) + someText(r, v.Text) + within
	}
	return document(v)
}

// P9.2 of documents of all forms, and of such ones that are changed in some places.
func TestReadChanged(t *testing.T) {
	r := rand.New(rand.NewSource(93))
	pieces := []string{"", "\x00", "\xff", "\xc0", "\xc1", "\xa0", "\xa1", "\xa1a", "\xa4$tag", "\xa2$$", "$", "\x90", "\x91", "\x92", "\x80", "\x81", "\x82", "\xc4", "\xc7", "\xca", "\xcb", "\xcc", "\xcf", "\xd0", "\xd3", "\xd4\x01", "\xd5\x01", "\xd9", "\xdc\x00", "\xde\x00\x01", "\xc7\x05\x011e401", "\xc7\x06\x011e-401", "\xdc\x01\x01", "\x01", "\x02"}
	seen := map[api.Errno]int{}
	for range 40000 {
		v := someValue(r, 5)
		s := loose(r, v)
		if r.Intn(4) == 0 {
			wantRead(t, s, v)
		}
		for range r.Intn(3) {
			at := r.Intn(len(s) + 1)
			to := min(at+r.Intn(3), len(s))
			s = s[:at] + pieces[r.Intn(len(pieces))] + s[to:]
		}
		seen[ask(t, s)]++
	}
	if seen[api.OK] < 1000 || seen[api.ErrLimit] < 100 || seen[api.ErrPack] < 1000 {
		t.Errorf("too few of some: %v", seen)
	}
}
