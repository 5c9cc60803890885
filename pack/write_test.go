package pack_test

import (
	"encoding/binary"
	"math"
	"math/big"
	"math/rand"
	"slices"
	"strings"
	"testing"

	"calamus/api"
	"calamus/fbits"
	"calamus/num"
	"calamus/pack"
)

// headOf is a first byte, and n in so many bytes.
func headOf(first int, n uint64, width int) string {
	all := string(binary.BigEndian.AppendUint64(nil, n))
	return string([]byte{byte(first)}) + all[8-width:]
}

// textHead is the shortest head of a text of n bytes, laid out apart from Write; bytesHead, listHead, recordHead are of those.
func textHead(n int) string {
	switch {
	case n < 0x20:
		return headOf(0xa0+n, 0, 0)
	case n < 0x100:
		return headOf(0xd9, uint64(n), 1)
	case n < 0x10000:
		return headOf(0xda, uint64(n), 2)
	}
	return headOf(0xdb, uint64(n), 4)
}

func bytesHead(n int) string {
	switch {
	case n < 0x100:
		return headOf(0xc4, uint64(n), 1)
	case n < 0x10000:
		return headOf(0xc5, uint64(n), 2)
	}
	return headOf(0xc6, uint64(n), 4)
}

func listHead(n int) string {
	switch {
	case n < 0x10:
		return headOf(0x90+n, 0, 0)
	case n < 0x10000:
		return headOf(0xdc, uint64(n), 2)
	}
	return headOf(0xdd, uint64(n), 4)
}

func recordHead(n int) string {
	switch {
	case n < 0x10:
		return headOf(0x80+n, 0, 0)
	case n < 0x10000:
		return headOf(0xde, uint64(n), 2)
	}
	return headOf(0xdf, uint64(n), 4)
}

// document is a value's, laid out apart from Write, by the chapter's words.
func document(v api.Value) string {
	within := ""
	for i, w := range v.List {
		if v.Kind == api.KindRecord {
			name := v.Names[i]
			if i == 0 && strings.HasPrefix(name, "$") {
				name = "$" + name
			}
			within += textHead(len(name)) + name
		}
		within += document(w)
	}
	switch v.Kind {
	case api.KindNull:
		return x("c0")
	case api.KindBool:
		if v.Flag {
			return x("c3")
		}
		return x("c2")
	case api.KindNum:
		return numberItem(v.Num)
	case api.KindFloat:
		if s, ok := single(v.Bits); ok {
			return headOf(0xca, uint64(s), 4)
		}
		return headOf(0xcb, v.Bits, 8)
	case api.KindText:
		return textHead(len(v.Text)) + v.Text
	case api.KindBytes:
		return bytesHead(len(v.Text)) + v.Text
	case api.KindList:
		return listHead(len(v.List)) + within
	case api.KindRecord:
		return recordHead(len(v.List)) + within
	}
	return x("81a42474616792") + textHead(len(v.Text)) + v.Text + within
}

// numberItem is the shortest of all that there are for a whole number, else the text.
func numberItem(n api.Num) string {
	forms := wholeItems(n)
	if len(forms) == 0 {
		s, _ := num.Print(n)
		forms = extensions(s)
	}
	return slices.MinFunc(forms, func(a, b string) int { return len(a) - len(b) })
}

// wholeItems are the items of a number that is whole and not too great; those for numbers from 0 on ahead of signed ones.
func wholeItems(n api.Num) []string {
	if n.Exp < 0 || n.Exp > 20 {
		return nil
	}
	m, _ := new(big.Int).SetString(n.Digits+strings.Repeat("0", n.Exp), 10)
	if n.Neg {
		m.Neg(m)
	}
	var l []string
	if m.IsUint64() {
		u := m.Uint64()
		if u < 0x80 {
			l = append(l, headOf(int(u), 0, 0))
		}
		for i := range 4 {
			if m.BitLen() <= 8<<i {
				l = append(l, headOf(0xcc+i, u, 1<<i))
			}
		}
	}
	if m.IsInt64() {
		s := m.Int64()
		if s < 0 && s >= -32 {
			l = append(l, headOf(256+int(s), 0, 0))
		}
		for i := range 4 {
			if most := int64(math.MaxInt64) >> (64 - 8<<i); s <= most && s >= -most-1 {
				l = append(l, headOf(0xd0+i, uint64(s), 1<<i))
			}
		}
	}
	return l
}

// extensions are all of the kind 1 with this text.
func extensions(s string) []string {
	n := uint64(len(s))
	l := []string{headOf(0xc9, n, 4) + "\x01" + s}
	if n < 0x10000 {
		l = append(l, headOf(0xc8, n, 2)+"\x01"+s)
	}
	if n < 0x100 {
		l = append(l, headOf(0xc7, n, 1)+"\x01"+s)
	}
	for i := range 5 {
		if n == 1<<i {
			l = append(l, headOf(0xd4+i, 1, 1)+s)
		}
	}
	return l
}

// single is the pattern of 32 bits that is widened to b, if there is one: by the machine's floats, and the bits of what is no number.
func single(b uint64) (uint32, bool) {
	s := math.Float32bits(float32(math.Float64frombits(b)))
	if b&0x7ff0000000000000 == 0x7ff0000000000000 {
		s = uint32(b>>63)<<31 | 0x7f800000 | uint32(b>>29)&0x7fffff
	}
	return s, fbits.Widen32(s) == b
}

// wantWritten asks Write for a value's document.
func wantWritten(t *testing.T, v api.Value, want string) {
	t.Helper()
	if b, e := pack.Write(v); e != api.OK || string(b) != want {
		t.Errorf("P9.1: Write = %s, %d, want %s", short(string(b)), e, short(want))
	}
}

// wantNotWritten asks Write for an error.
func wantNotWritten(t *testing.T, v api.Value, want api.Errno) {
	t.Helper()
	if b, e := pack.Write(v); e != want || len(b) > 0 {
		t.Errorf("P9.1: Write = %s, %d, want %d", short(string(b)), e, want)
	}
}

func nulls(n int) []api.Value { return slices.Repeat([]api.Value{null}, n) }

// P9.1 of each Kind, and of the edges of the items.
func TestWriteKinds(t *testing.T) {
	times := strings.Repeat
	for _, c := range []struct {
		v    api.Value
		want string
	}{
		{null, x("c0")}, {flag(true), x("c3")}, {flag(false), x("c2")},
		{whole("0"), x("00")}, {whole("1"), x("01")}, {whole("127"), x("7f")}, {whole("128"), x("cc80")}, {whole("255"), x("ccff")}, {whole("256"), x("cd0100")}, {whole("65535"), x("cdffff")}, {whole("65536"), x("ce00010000")}, {whole("4294967295"), x("ceffffffff")}, {whole("4294967296"), x("cf0000000100000000")}, {whole("9223372036854775807"), x("cf7fffffffffffffff")}, {whole("9223372036854775808"), x("cf8000000000000000")}, {whole("18446744073709551615"), x("cfffffffffffffffff")}, {whole("10000000000000000000"), x("cf8ac7230489e80000")},
		{whole("-1"), x("ff")}, {whole("-32"), x("e0")}, {whole("-33"), x("d0df")}, {whole("-128"), x("d080")}, {whole("-129"), x("d1ff7f")}, {whole("-32768"), x("d18000")}, {whole("-32769"), x("d2ffff7fff")}, {whole("-2147483648"), x("d280000000")}, {whole("-2147483649"), x("d3ffffffff7fffffff")}, {whole("-9223372036854775808"), x("d38000000000000000")},
		{whole("18446744073709551616"), x("c71401") + "18446744073709551616"}, {whole("100000000000000000000"), x("c71501") + "100000000000000000000"}, {whole("-9223372036854775809"), x("c71401") + "-9223372036854775809"}, {whole("-18446744073709551615"), x("c71501") + "-18446744073709551615"}, {whole("1" + times("0", 21)), x("d601") + "1e21"}, {whole("-1" + times("0", 21)), x("c70501") + "-1e21"}, {decimal("15", 30), x("c70601") + "1.5e31"},
		{decimal("5", -1), x("c70301") + "0.5"}, {decimal("-5", -1), x("d601") + "-0.5"}, {decimal("1234567", -3), x("d701") + "1234.567"}, {decimal("-123456789012345", -1), x("c71101") + "-12345678901234.5"}, {decimal("123456789012345", -1), x("d801") + "12345678901234.5"}, {decimal("12345678901234", -1), x("c70f01") + "1234567890123.4"}, {decimal("1", -400), x("c70601") + "1e-400"}, {decimal("-"+times("9", 40), -21), x("c72a01") + "-9999999999999999999." + times("9", 21)}, {decimal(times("9", 40), 400), x("c72d01") + "9." + times("9", 39) + "e439"},
		{float(0), x("ca00000000")}, {float(1 << 63), x("ca80000000")}, {float(0x3ff0000000000000), x("ca3f800000")}, {float(0x3ff8000000000000), x("ca3fc00000")}, {float(0x40effc0000000000), x("ca477fe000")}, {float(0x40f0000000000000), x("ca47800000")}, {float(0x7ff0000000000000), x("ca7f800000")}, {float(0xfff0000000000000), x("caff800000")}, {float(0x7ff8040000000000), x("ca7fc02000")}, {float(0x7ff0000020000000), x("ca7f800001")}, {float(0x7ff0000000000001), x("cb7ff0000000000001")}, {float(1), x("cb0000000000000001")}, {float(0x36a0000000000000), x("ca00000001")}, {float(0x3e70000000000000), x("ca33800000")}, {float(0x3fb999999999999a), x("cb3fb999999999999a")}, {float(0x3ff0000010000000), x("cb3ff0000010000000")}, {float(0x47f0000000000000), x("cb47f0000000000000")},
		{text(""), x("a0")}, {text("a"), x("a161")}, {text("\u00e9"), x("a2c3a9")}, {text(times("a", 31)), x("bf") + times("a", 31)}, {text(times("a", 32)), x("d920") + times("a", 32)}, {text(times("a", 255)), x("d9ff") + times("a", 255)}, {text(times("a", 256)), x("da0100") + times("a", 256)}, {text(times("a", 4096)), x("da1000") + times("a", 4096)},
		{raw(""), x("c400")}, {raw("\x00\xff"), x("c40200ff")}, {raw(times("\xff", 255)), x("c4ff") + times("\xff", 255)}, {raw(times("\xff", 256)), x("c50100") + times("\xff", 256)}, {raw(times("\xff", 4096)), x("c51000") + times("\xff", 4096)},
		{list(), x("90")}, {list(null), x("91c0")}, {list(list(), list(whole("1"), whole("2"))), x("9290920102")}, {list(nulls(15)...), x("9f") + times("\xc0", 15)}, {list(nulls(16)...), x("dc0010") + times("\xc0", 16)}, {list(nulls(256)...), x("dc0100") + times("\xc0", 256)},
		{record(""), x("80")}, {record("a", null), x("81a161c0")}, {record("b a", list(), record("")), x("82a16290a16180")}, {record("$tag", null), x("81a5") + "$$tag\xc0"}, {record("$ $tag $$", null, null, null), x("83a2") + "$$\xc0\xa4$tag\xc0\xa2$$\xc0"}, {record("a $tag", null, null), x("82a161c0a4") + "$tag\xc0"}, {record("$$", null), x("81a3") + "$$$\xc0"}, {record(times("$", 31), null), x("81d920") + times("$", 32) + "\xc0"}, {record(times("$", 64), null), x("81d941") + times("$", 65) + "\xc0"},
		{tag("", null), x("81a4") + "$tag\x92\xa0\xc0"}, {tag("ab", tag("$t", list())), x("81a4") + "$tag\x92\xa2ab\x81\xa4$tag\x92\xa2$t\x90"}, {tag(times("n", 32), null), x("81a4") + "$tag\x92\xd9\x20" + times("n", 32) + "\xc0"},
	} {
		wantWritten(t, c.v, c.want)
		wantWritten(t, list(c.v, c.v), "\x92"+c.want+c.want)
		wantWritten(t, record("a $b", c.v, c.v), "\x82\xa1a"+c.want+"\xa2$b"+c.want)
		wantWritten(t, tag("t", c.v), "\x81\xa4$tag\x92\xa1t"+c.want)
	}
}

// P9.1 of a list and a record with as many elements as there are edges for.
func TestWriteWide(t *testing.T) {
	for n := range 257 {
		v, w := list(nulls(n)...), record("", nulls(n)...)
		for i := range n {
			w.Names = append(w.Names, "$"+string(rune('0'+i)))
		}
		wantWritten(t, v, document(v))
		wantWritten(t, w, document(w))
	}
}

// P9.1 of numbers of all lengths, and of values of all kinds, one in another.
func TestWriteSome(t *testing.T) {
	r := rand.New(rand.NewSource(91))
	for _, v := range scalars() {
		wantWritten(t, v, document(v))
	}
	for range 20000 {
		n := api.Num{Neg: r.Intn(2) == 0, Exp: r.Intn(801) - 400}
		if r.Intn(2) == 0 {
			n.Exp = r.Intn(45) - 22
		}
		for range r.Intn(40) {
			n.Digits += string(rune('0' + r.Intn(10)))
		}
		n.Digits = strings.TrimLeft(n.Digits, "0") + string(rune('1'+r.Intn(9)))
		wantWritten(t, number(n), document(number(n)))
	}
	for i := range 200000 {
		m := big.NewInt(int64(i - 100000))
		wantWritten(t, whole(m.String()), document(whole(m.String())))
	}
	for range 3000 {
		v := someValue(r, 6)
		wantWritten(t, v, document(v))
	}
}

// P9.1 of all floats that 16 bits hold, of some that 32 bits hold, and of their neighbours.
func TestWriteFloats(t *testing.T) {
	for h := range 1 << 16 {
		b := fbits.Widen16(uint16(h))
		s, ok := single(b)
		if !ok {
			t.Fatalf("%x is not widened from 32 bits", b)
		}
		wantWritten(t, float(b), headOf(0xca, uint64(s), 4))
		wantWritten(t, float(b^1), headOf(0xcb, b^1, 8))
		wantWritten(t, float(b^1<<29), document(float(b^1<<29)))
		wantWritten(t, float(b^1<<60), document(float(b^1<<60)))
	}
	r := rand.New(rand.NewSource(92))
	for range 100000 {
		s := r.Uint32()
		wantWritten(t, float(fbits.Widen32(s)), headOf(0xca, uint64(s), 4))
		b := r.Uint64()
		wantWritten(t, float(b), document(float(b)))
	}
}

// P9.1: what is no value, and what is not within the limits, also where its document would be too long.
func TestWriteRefused(t *testing.T) {
	long := slices.Repeat([]api.Value{text(strings.Repeat("a", 4096))}, 17)
	deep := null
	for range 16 {
		deep = tag("t", deep)
	}
	for _, c := range []struct {
		v    api.Value
		want api.Errno
	}{
		{api.Value{}, api.ErrValueForm}, {api.Value{Kind: 10}, api.ErrValueForm}, {api.Value{Kind: -1}, api.ErrValueForm}, {api.Value{Kind: api.KindNull, Text: "a"}, api.ErrValueForm},
		{text("\xff"), api.ErrValueForm}, {tag("\x80", null), api.ErrValueForm}, {record("a a", null, null), api.ErrValueForm}, {record("a", null, null), api.ErrValueForm}, {record("$a $a", null, null), api.ErrValueForm}, {record("\xff", null), api.ErrValueForm},
		{number(api.Num{}), api.ErrValueForm}, {decimal("10", 0), api.ErrValueForm}, {decimal("1", 401), api.ErrValueForm}, {decimal("x", 0), api.ErrValueForm}, {api.Value{Kind: api.KindTag}, api.ErrValueForm},
		{list(append(slices.Clip(long), api.Value{})...), api.ErrValueForm}, {list(text(strings.Repeat("a", 4097)), api.Value{}), api.ErrValueForm},
		{text(strings.Repeat("a", 4097)), api.ErrLimit}, {raw(strings.Repeat("a", 4097)), api.ErrLimit}, {tag(strings.Repeat("a", 65), null), api.ErrLimit}, {record(strings.Repeat("a", 65), null), api.ErrLimit}, {record(strings.Repeat("$", 65), null), api.ErrLimit}, {deep, api.ErrLimit},
		{list(nulls(257)...), api.ErrLimit}, {list(long...), api.ErrLimit},
	} {
		wantNotWritten(t, c.v, c.want)
		wantNotWritten(t, list(null, c.v), c.want)
		wantNotWritten(t, tag("t", c.v), c.want)
	}
}

// filled is a list with v at its end, whose document has n bytes in all, some 65536.
func filled(v api.Value, n int) api.Value {
	l := slices.Repeat([]api.Value{raw(strings.Repeat("a", 4096))}, 14)
	n -= len(listHead(17)) + len(document(list(l...))) - len(listHead(14)) + len(document(v))
	for _, k := range []int{n / 2, n - n/2} {
		l = append(l, raw(strings.Repeat("a", k-len(bytesHead(k)))))
	}
	return list(append(l, v)...)
}

// P9.1: documents that just have 65536 bytes, and one more, whatever stands at their end.
func TestWriteLong(t *testing.T) {
	for _, v := range []api.Value{
		null, flag(true), flag(false), whole("12"), whole("-1"), whole("1000000"), whole("-1000000"), whole("18446744073709551616"), decimal("-15", 400), float(1), float(0), text(""), text("a"), text("\u00e9"), text(strings.Repeat("a", 40)), raw(""), raw("ab"), list(), list(null), list(list()), list(nulls(16)...), record(""), record("a", null), record("$ b", null, list()), tag("t", null), tag("t", tag("u", raw("\xff"))),
	} {
		for n := 65530; n < 65545; n++ {
			w := filled(v, n)
			s := document(w)
			if len(s) != n {
				t.Fatalf("filled: %d bytes, want %d", len(s), n)
			}
			if n > 65536 {
				wantNotWritten(t, w, api.ErrLimit)
			} else {
				wantWritten(t, w, s)
			}
		}
	}
	wide := list(slices.Repeat([]api.Value{text(strings.Repeat("\x00", 4096))}, 15)...)
	wantWritten(t, wide, document(wide))
	for range 7 {
		wide = list(wide, wide)
	}
	wantNotWritten(t, wide, api.ErrLimit)
	many := list() // each number is short, but its document is not
	for range 15 {
		many.List = append(many.List, list(slices.Repeat([]api.Value{decimal("1", 20)}, 250)...))
	}
	wantNotWritten(t, many, api.ErrLimit)
}
