package proto_test

import (
	"bytes"
	"strings"
	"testing"

	"calamus/api"
	"calamus/proto"
)

// P12.2: each kind of field, by itself, and as elements of a list.
func TestWriteFields(t *testing.T) {
	long := strings.Repeat("b", 300)
	for i, x := range []struct {
		t    api.Type
		v    api.Value
		want string // in hexadecimal; what stands behind a `|` is as it is
	}{
		{boolType, flag(false), ""},
		{boolType, flag(true), "08 01"},
		{intType, number("0", 0), ""},
		{intType, number("1", 0), "08 02"},
		{intType, below("1", 0), "08 01"},
		{intType, number("63", 0), "08 7e"},
		{intType, below("64", 0), "08 7f"},
		{intType, number("64", 0), "08 80 01"},
		{intType, below("65", 0), "08 81 01"},
		{intType, number("1", 2), "08 c8 01"},
		{intType, number("9223372036854775807", 0), "08 fe ff ff ff ff ff ff ff ff 01"},
		{intType, below("9223372036854775808", 0), "08 ff ff ff ff ff ff ff ff ff 01"},
		{intType, number("1", 18), "08 80 80 a0 f6 f4 ac db e0 1b"},
		{intType, number("9223372036854775808", 0), "0a 13|9223372036854775808"},
		{intType, below("9223372036854775809", 0), "0a 14|-9223372036854775809"},
		{intType, number("1", 19), "0a 14|10000000000000000000"},
		{intType, below("15", 30), "0a 07|-1.5e31"},
		{intType, number("1", 400), "0a 05|1e400"},
		{numType, number("0", 0), ""},
		{numType, number("1", 0), "0a 01|1"},
		{numType, below("5", -1), "0a 04|-0.5"},
		{numType, number("12", 2), "0a 04|1200"},
		{numType, number("1", -400), "0a 06|1e-400"},
		{floatType, float(0), ""},
		{floatType, float(1 << 63), "09 00 00 00 00 00 00 00 80"},
		{floatType, float(0x0102030405060708), "09 08 07 06 05 04 03 02 01"},
		{textType, text(""), ""},
		{textType, text("\u00e9"), "0a 02 c3 a9"},
		{textType, text(long), "0a ac 02|" + long},
		{bytesType, raw(""), ""},
		{bytesType, raw("\xff\x00"), "0a 02 ff 00"},
		{recordOf(""), record(""), ""},
		{recordOf("b c", intType, listOf(textType)), record("b c", number("0", 0), list()), ""},
		{recordOf("b c", intType, textType), record("b c", number("0", 0), text("x")), "0a 03 12 01|x"},
		{recordOf("b", recordOf("c", boolType)), record("b", record("c", flag(true))), "0a 04 0a 02 08 01"},
		{recordOf("b", recordOf("c", boolType)), record("b", record("c", flag(false))), ""},
		{listOf(boolType), list(), ""},
		{listOf(boolType), list(flag(false)), "0a 01 00"},
		{listOf(boolType), list(flag(true), flag(false), flag(true)), "0a 03 01 00 01"},
		{listOf(intType), list(number("0", 0)), "0a 01 00"},
		{listOf(intType), list(number("64", 0), below("1", 0), number("0", 0)), "0a 04 80 01 01 00"},
		{listOf(intType), list(below("9223372036854775808", 0), number("9223372036854775807", 0)), "0a 14 ff ff ff ff ff ff ff ff ff 01 fe ff ff ff ff ff ff ff ff 01"},
		{listOf(floatType), list(float(0), float(1)), "0a 10 00 00 00 00 00 00 00 00 01 00 00 00 00 00 00 00"},
		{listOf(numType), list(number("0", 0), number("5", -1)), "0a 01 30 0a 03|0.5"},
		{listOf(textType), list(text(""), text("a"), text("")), "0a 00 0a 01 61 0a 00"},
		{listOf(bytesType), list(raw("\xff"), raw("")), "0a 01 ff 0a 00"},
		{listOf(recordOf("")), list(record(""), record("")), "0a 00 0a 00"},
		{listOf(recordOf("b", intType)), list(record("b", number("0", 0)), record("b", number("1", 0))), "0a 00 0a 02 08 02"},
		{listOf(recordOf("b", listOf(intType))), list(record("b", list(number("1", 0)))), "0a 03 0a 01 02"},
	} {
		digits, behind, _ := strings.Cut(x.want, "|")
		want := append(unhex(t, digits), behind...)
		if b, e := proto.Write(recordOf("a", x.t), record("a", x.v)); !bytes.Equal(b, want) || e != api.OK {
			t.Errorf("P12.2: value %d: % x, %d, want % x", i, b, e, want)
		}
	}
}

// P12.2: fields stand in the order of their numbers, whose keys grow.
func TestWriteOrder(t *testing.T) {
	wantWrite(t, recordOf("z y x", boolType, recordOf("q p", boolType, boolType), boolType), record("z y x", flag(true), record("q p", flag(true), flag(true)), flag(true)), unhex(t, "08 01 12 04 08 01 10 01 18 01"), api.OK)
	v := wide(256, flag(false))
	for _, x := range []struct {
		at   int
		want string
	}{
		{0, "08 01"}, {14, "78 01"}, {15, "80 01 01"}, {16, "88 01 01"}, {30, "f8 01 01"}, {31, "80 02 01"}, {255, "80 10 01"},
	} {
		v.List[x.at] = flag(true)
		wantWrite(t, wideOf(256, boolType), v, unhex(t, x.want), api.OK)
		v.List[x.at] = flag(false)
	}
}

// P12.2: a list of int with an element that does not fit has no document; such an int by itself, or as a num, has.
func TestWriteNoDocument(t *testing.T) {
	for _, n := range []api.Value{number("9223372036854775808", 0), below("9223372036854775809", 0), number("1", 19), number("18446744073709551616", 0), number("1", 400)} {
		one := number("1", 0)
		for _, l := range [][]api.Value{{n}, {n, one}, {one, n}, {one, n, one}} {
			wantWrite(t, recordOf("a", listOf(intType)), record("a", list(l...)), nil, api.ErrLimit)
			wantWrite(t, recordOf("a b", boolType, recordOf("b", listOf(intType))), record("a b", flag(true), record("b", list(l...))), nil, api.ErrLimit)
			wantWrite(t, recordOf("a", listOf(recordOf("b", listOf(intType)))), record("a", list(record("b", list()), record("b", list(l...)))), nil, api.ErrLimit)
			if b, e := proto.Write(recordOf("a", listOf(numType)), record("a", list(l...))); len(b) == 0 || e != api.OK {
				t.Errorf("P12.2: of num: %d", e)
			}
		}
		if b, e := proto.Write(recordOf("a", listOf(recordOf("b", intType))), record("a", list(record("b", n)))); len(b) == 0 || e != api.OK {
			t.Errorf("P12.2: of int: %d", e)
		}
	}
}

// P12.2: a document has at most 65536 bytes.
func TestWriteLong(t *testing.T) {
	x := recordOf("a b", listOf(textType), recordOf("c d", listOf(bytesType), recordOf("e", listOf(textType))))
	for n := 3900; n <= 4096; n++ {
		a := strings.Repeat("a", 4096)
		v := record("a b", list(append(times(15, text(a)), text(a[:n]))...), record("c d", list(), record("e", list())))
		// 15 times 4096 and a key and a length of two bytes each, and so the last one.
		want, e := reckonWrite(x, v)
		wantWrite(t, x, v, []byte(want), e)
		if long := 15*(4096+3) + n + 3; (e == api.OK) != (long <= 65536) || e == api.OK && len(want) != long {
			t.Fatalf("the reckoning is wrong: %d bytes, %d", len(want), e)
		}
		v = record("a b", list(), record("c d", list(append(times(15, raw(a)), raw(a[:n]))...), record("e", list())))
		want, e = reckonWrite(x, v)
		wantWrite(t, x, v, []byte(want), e)
		v = record("a b", list(), record("c d", list(), record("e", list(append(times(15, text(a)), text(a[:n]))...))))
		want, e = reckonWrite(x, v)
		wantWrite(t, x, v, []byte(want), e)
	}
	a := text(strings.Repeat("a", 4096))
	for _, n := range []int{16, 17, 100, 256} {
		wantWrite(t, x, record("a b", list(), record("c d", list(), record("e", list(times(n, a)...)))), nil, api.ErrLimit)
		wantWrite(t, x, record("a b", list(times(n, a)...), record("c d", list(), record("e", list()))), nil, api.ErrLimit)
	}
	packed := recordOf("a", listOf(recordOf("b", listOf(floatType))))
	for _, n := range []int{28, 29, 30, 31, 32} {
		v := record("a", list(times(n/2, record("b", list(times(256, float(1))...)))...))
		want, e := reckonWrite(packed, v)
		wantWrite(t, packed, v, []byte(want), e)
	}
}

// P12.2: errors, in their order. (Those of types: TestCheck.)
func TestWriteRefused(t *testing.T) {
	for _, v := range []api.Value{
		{}, {Kind: 10}, {Kind: api.KindNull, Flag: true}, record("a a a", null, null, null), record("a b c", text("\xff"), null, null), abcOf(number("10", 0), ""), abcOf(number("0", 0), "\xff"), abcOf(number("0", 0), strings.Repeat("a", 5000), api.Value{}),
		list(text(strings.Repeat("a", 5000)), api.Value{}),
	} {
		wantWrite(t, abc, v, nil, api.ErrValueForm)
	}
	for _, v := range []api.Value{
		text(strings.Repeat("a", 4097)), list(times(257, null)...), abcOf(number("0", 0), strings.Repeat("a", 4097)), abcOf(number("0", 0), "", times(257, number("0", 0))...), abcOf(number("5", -1), strings.Repeat("a", 4097)),
		record(strings.Repeat("a", 65), null),
	} {
		wantWrite(t, abc, v, nil, api.ErrLimit)
	}
	over := number("9223372036854775808", 0)
	for _, v := range []api.Value{
		null, number("1", 0), list(), text(""), record(""), record("a b", number("0", 0), text("")), record("a c b", number("0", 0), list(), text("")), record("a b c d", number("0", 0), text(""), list(), null),
		abcOf(number("5", -1), ""), abcOf(null, ""), abcOf(text("1"), ""), abcOf(float(0), ""), abcOf(number("0", 0), "", number("5", -1)), abcOf(number("0", 0), "", null), abcOf(number("0", 0), "", over, null), abcOf(null, "", over),
		record("a b c", number("0", 0), raw(""), list()), record("a b c", number("0", 0), text(""), record("")), {Kind: api.KindTag, Text: "a", List: []api.Value{abcOf(number("0", 0), "")}},
	} {
		wantWrite(t, abc, v, nil, api.ErrProtoType)
	}
}
