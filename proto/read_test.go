package proto_test

import (
	"strings"
	"testing"

	"calamus/api"
	"calamus/proto"
)

// P12.3: each kind of field, in each way it may stand.
func TestReadFields(t *testing.T) {
	one, two := number("1", 0), number("2", 0)
	for _, x := range []struct {
		t    api.Type
		from string // in hexadecimal; what stands behind a `|` is as it is
		want api.Value
	}{
		{boolType, "08 00", flag(false)},
		{boolType, "08 01", flag(true)},
		{boolType, "08 81 00", flag(true)},
		{boolType, "08 80 80 80 80 80 80 80 80 80 00", flag(false)},
		{boolType, "08 01 08 00", flag(false)},
		{boolType, "88 00 01", flag(true)},
		{boolType, "88 80 80 80 80 80 80 80 80 00 01", flag(true)},
		{intType, "08 00", number("0", 0)},
		{intType, "08 01", below("1", 0)},
		{intType, "08 02", one},
		{intType, "08 82 80 00", one},
		{intType, "08 ff ff ff ff ff ff ff ff ff 01", below("9223372036854775808", 0)},
		{intType, "08 fe ff ff ff ff ff ff ff ff 01", number("9223372036854775807", 0)},
		{intType, "08 ff ff ff ff ff ff ff ff ff 00", below("4611686018427387904", 0)},
		{intType, "0a 01|1", one},
		{intType, "0a 02|-0", number("0", 0)},
		{intType, "0a 03|2.0", two},
		{intType, "0a 05|10e-1", one},
		{intType, "0a 05|1e400", number("1", 400)},
		{intType, "0a 05|0.5e1", number("5", 0)},
		{intType, "0a 01 31 08 04", two},
		{intType, "08 04 0a 01|1", one},
		{numType, "0a 01|0", number("0", 0)},
		{numType, "0a 05|-1.50", below("15", -1)},
		{numType, "0a 81 00|2", two},
		{floatType, "09 08 07 06 05 04 03 02 01", float(0x0102030405060708)},
		{floatType, "09 01 00 00 00 00 00 00 80 09 00 00 00 00 00 00 00 00", float(0)},
		{textType, "0a 00", text("")},
		{textType, "0a 02 c3 a9", text("\u00e9")},
		{textType, "0a 01 61 0a 00", text("")},
		{bytesType, "0a 02 ff 00", raw("\xff\x00")},
		{bytesType, "0a 80 80 80 80 80 80 80 80 80 00", raw("")},
		{recordOf(""), "0a 00", record("")},
		{recordOf(""), "0a 02 08 00", record("")},
		{recordOf("b c", intType, boolType), "0a 02 08 02", record("b c", one, flag(false))},
		{recordOf("b c", intType, boolType), "0a 02 08 02 0a 02 10 01", record("b c", number("0", 0), flag(true))},
		{recordOf("b c", intType, boolType), "0a 02 08 02 0a 00", record("b c", number("0", 0), flag(false))},
		{recordOf("b", listOf(intType)), "0a 02 08 02 0a 02 08 04", record("b", list(two))},
		{recordOf("b", listOf(intType)), "0a 04 08 02 08 04", record("b", list(one, two))},
		{listOf(boolType), "0a 00", list()},
		{listOf(boolType), "0a 03 01 00 01", list(flag(true), flag(false), flag(true))},
		{listOf(boolType), "0a 04 81 00 80 00", list(flag(true), flag(false))},
		{listOf(boolType), "08 01 0a 02 00 01 08 00 0a 00", list(flag(true), flag(false), flag(true), flag(false))},
		{listOf(intType), "0a 00", list()},
		{listOf(intType), "08 02 0a 02 04 02 08 04", list(one, two, one, two)},
		{listOf(intType), "0a 01|1", list(below("25", 0))}, // a zigzag, no text
		{listOf(floatType), "0a 00", list()},
		{listOf(floatType), "09 01 00 00 00 00 00 00 00 0a 08 02 00 00 00 00 00 00 00", list(float(1), float(2))},
		{listOf(floatType), "0a 10 01 00 00 00 00 00 00 00 00 00 00 00 00 00 00 80", list(float(1), float(1<<63))},
		{listOf(numType), "0a 01 31 0a 03|2.0", list(one, two)},
		{listOf(textType), "0a 01 61 0a 00 0a 01|b", list(text("a"), text(""), text("b"))},
		{listOf(bytesType), "0a 01 ff 0a 00", list(raw("\xff"), raw(""))},
		{listOf(recordOf("b", intType)), "0a 00 0a 02 08 02 0a 04 08 02 08 04", list(record("b", number("0", 0)), record("b", one), record("b", two))},
		{listOf(recordOf("b", listOf(intType))), "0a 00 0a 03 0a 01 02", list(record("b", list()), record("b", list(one)))},
	} {
		digits, behind, _ := strings.Cut(x.from, "|")
		b := append(unhex(t, digits), behind...)
		wantRead(t, recordOf("a", x.t), b, record("a", x.want), api.OK)
	}
}

// P12.3: fields may come in any order; one that does not come has its value.
func TestReadOrder(t *testing.T) {
	x := recordOf("a b c d", intType, textType, listOf(boolType), recordOf("e f", floatType, listOf(textType)))
	empty := record("e f", float(0), list())
	wantRead(t, x, nil, record("a b c d", number("0", 0), text(""), list(), empty), api.OK)
	wantRead(t, x, unhex(t, "22 00 18 01 12 01 62 18 00 08 02 1a 01 01"), record("a b c d", number("1", 0), text("b"), list(flag(true), flag(false), flag(true)), empty), api.OK)
	wantRead(t, x, unhex(t, "22 06 12 01 62 12 01 63 08 02 12 00"), record("a b c d", number("1", 0), text(""), list(), record("e f", float(0), list(text("b"), text("c")))), api.OK)
	wantRead(t, wideOf(256, boolType), unhex(t, "80 10 01 80 01 01"), func() api.Value {
		v := wide(256, flag(false))
		v.List[255], v.List[15] = flag(true), flag(true)
		return v
	}(), api.OK)
}

// P12.3: a field whose number is none of the record's is left out, with any of the three wires, whatever it has.
func TestReadLeftOut(t *testing.T) {
	for _, s := range []string{
		"10 00", "10 02", "10 ff ff ff ff ff ff ff ff ff 01", "11 01 02 03 04 05 06 07 08", "12 00", "12 02 ff 08", "12 01 0b", "12 05|1e999", "00 00", "00 05", "01 01 02 03 04 05 06 07 08", "02 01 ff", "80 00 01",
		"80 80 80 80 10 01", "f8 ff ff ff ff ff ff ff ff 01 01", "f9 ff ff ff ff ff ff ff ff 01 01 02 03 04 05 06 07 08", "fa ff ff ff ff ff ff ff ff 01 01 ff",
		"88 80 80 80 80 80 80 80 80 01 07", // whose number is that of a field, but for its highest bit
	} {
		digits, behind, _ := strings.Cut(s, "|")
		b := append(unhex(t, digits), behind...)
		wantRead(t, recordOf("a", boolType), b, record("a", flag(false)), api.OK)
		wantRead(t, recordOf("a", boolType), append(b, 8, 1), record("a", flag(true)), api.OK)
		wantRead(t, recordOf("a", boolType), append([]byte{8, 1}, b...), record("a", flag(true)), api.OK)
		wantRead(t, recordOf("a", recordOf("b", boolType)), append(append([]byte{10, byte(len(b) + 2)}, b...), 8, 1), record("a", record("b", flag(true))), api.OK)
		for n := 1; n < len(b); n++ { // and cut off it is no field
			wantRead(t, recordOf("a", boolType), b[:n:n], api.Value{}, api.ErrProto)
		}
	}
	wantRead(t, recordOf(""), unhex(t, "08 01 12 01 ff 0a 00 02 00"), record(""), api.OK)
}

// P12.3: what is no message. What follows it is none either.
func TestReadNoMessage(t *testing.T) {
	for _, x := range []struct {
		t api.Type
		l []string
	}{
		{boolType, []string{"08", "08 02", "08 80", "08 80 01", "08 82 00", "09 01 00 00 00 00 00 00 00", "0a 01 01", "0a 00", "0b", "0c", "0d 00 00 00 00", "0e", "0f", "0b 01", "0c 00", "88", "08 ff ff ff ff ff ff ff ff ff 01"}},
		{intType, []string{"08", "08 80", "08 80 80 80 80 80 80 80 80 80 02", "08 ff ff ff ff ff ff ff ff ff 02", "08 80 80 80 80 80 80 80 80 80 80 00", "08 ff ff ff ff ff ff ff ff ff 81 00", "09 01 00 00 00 00 00 00 00", "0a 00", "0a 02 31", "0a", "0a 01|x", "0a 02|01", "0a 03|0.5", "0a 04|1e-1", "0a 04|1e4\n", "0a 02|+1", "0a 05|-1e-2", "0d 00 00 00 00"}},
		{numType, []string{"08 02", "09 01 00 00 00 00 00 00 00", "0a 00", "0a 01|x", "0a 02|01", "0a 02|1.", "0a 05|1e500x", "0a 01 ff", "0a 80"}},
		{floatType, []string{"08 02", "09", "09 00", "09 01 02 03 04 05 06 07", "0a 08 01 02 03 04 05 06 07 08", "0d 00 00 00 00"}},
		{textType, []string{"08 02", "09 01 00 00 00 00 00 00 00", "0a", "0a 01", "0a 01 ff", "0a 02 c3", "0a 01 c3", "0a 03 ed a0 80", "0a 02 c0 80", "0a 80", "0a ff ff ff ff ff ff ff ff ff 01", "0a ff ff ff ff 0f", "0a 80 80 80 80 80 80 80 80 80 01", "0a 80 80 80 80 80 80 80 80 80 02"}},
		{bytesType, []string{"08 02", "09 01 00 00 00 00 00 00 00", "0a", "0a 01", "0a 03 01 02"}},
		{recordOf("b", boolType), []string{"08 02", "09 01 00 00 00 00 00 00 00", "0a 01 08", "0a 02 08 02", "0a 02 0a 00", "0a 01 00", "0a 01 10", "0a 02 13 00", "0a 03 08 01", "0a 03 08 80 01", "0a 04 08 01 08 02"}},
		{recordOf(""), []string{"08 00", "0a 01 08", "0a 01 00", "0a 02 0b 00"}},
		{listOf(boolType), []string{"08 02", "0a 01 02", "0a 01 80", "0a 03 00 01 02", "0a 02 80 01", "0a 02 01", "09 01 00 00 00 00 00 00 00", "0a 05 80 01 00 00 00"}},
		{listOf(intType), []string{"09 01 00 00 00 00 00 00 00", "0a 01 80", "0a 03 00 01 80", "0a 0b 80 80 80 80 80 80 80 80 80 80 00", "0a 0a ff ff ff ff ff ff ff ff ff 02", "0a 02 00", "0a"}},
		{listOf(floatType), []string{"08 01", "0a 01 00", "0a 07 00 00 00 00 00 00 00", "0a 09 00 00 00 00 00 00 00 00 00", "0a 08 00 00 00 00 00 00 00", "09 00"}},
		{listOf(numType), []string{"08 02", "0a 00", "0a 02 30 80", "0a 01|x"}},
		{listOf(textType), []string{"08 02", "0a 01 ff", "0a 02 61"}},
		{listOf(bytesType), []string{"08 02", "09 01 00 00 00 00 00 00 00", "0a 02 61"}},
		{listOf(recordOf("b", boolType)), []string{"08 02", "0a 02 08 02", "0a 02 08 01 0a 02 08 02", "0a 02 0a 01"}},
	} {
		for _, s := range x.l {
			digits, behind, _ := strings.Cut(s, "|")
			b := append(unhex(t, digits), behind...)
			wantRead(t, recordOf("a", x.t), b, api.Value{}, api.ErrProto)
			wantRead(t, recordOf("z a", boolType, recordOf("a", x.t)), append([]byte{0x12, byte(len(b))}, b...), api.Value{}, api.ErrProto)
			// A later one that counts makes it none the better, nor does one that is left out.
			wantRead(t, recordOf("z a", boolType, recordOf("a", x.t)), append(append([]byte{0x12, byte(len(b))}, b...), 0x12, 0), api.Value{}, api.ErrProto)
			wantRead(t, recordOf("a", x.t), append([]byte{0x78, 0}, b...), api.Value{}, api.ErrProto)
		}
	}
}

// P12.3: what stands in a field must fit its type also where a later one counts.
func TestReadLater(t *testing.T) {
	for _, x := range []struct {
		t    api.Type
		s    string
		want api.Errno
	}{
		{boolType, "08 02 08 01", api.ErrProto},
		{intType, "0a 01 78 08 02", api.ErrProto},
		{intType, "0a 03 30 2e 35 08 02", api.ErrProto},
		{numType, "0a 01 78 0a 01 31", api.ErrProto},
		{textType, "0a 01 ff 0a 01 61", api.ErrProto},
		{recordOf("b", boolType), "0a 02 08 02 0a 02 08 01", api.ErrProto},
		{recordOf("b", boolType), "0a 04 08 02 08 01", api.ErrProto},
		{intType, "0a 05 31 65 39 39 39 08 02", api.ErrLimit}, // 1e999
		{numType, "0a 05 31 65 39 39 39 0a 01 31", api.ErrLimit},
		{recordOf("b", numType), "0a 07 0a 05 31 65 39 39 39 0a 00", api.ErrLimit},
	} {
		wantRead(t, recordOf("a", x.t), unhex(t, x.s), api.Value{}, x.want)
	}
}

// P12.3: a number's text beyond what num.Parse takes is a limit, if all else is a message, whatever stands ahead of it or behind it.
func TestReadBeyond(t *testing.T) {
	x := recordOf("a b c d", intType, numType, listOf(numType), recordOf("e", listOf(recordOf("f", intType))))
	beyond := []string{"1e999", "1e401", "-1e-401", "1e-999", strings.Repeat("9", 41), "0." + strings.Repeat("0", 400) + "1", "1" + strings.Repeat("0", 600), "1." + strings.Repeat("0", 600)}
	for _, s := range beyond {
		for _, b := range []string{
			keyed(1, 2, s), keyed(2, 2, s), keyed(3, 2, s), keyed(4, 2, keyed(1, 2, keyed(1, 2, s))),
		} {
			wantRead(t, x, []byte(b), api.Value{}, api.ErrLimit)
			wantRead(t, x, []byte(b+"\x08\x02"), api.Value{}, api.ErrLimit)
			wantRead(t, x, []byte("\x12\x011"+b+"\x22\x00"), api.Value{}, api.ErrLimit)
			for _, wrong := range []string{"\x08", "\x0b", "\x10\x00", keyed(1, 2, "0.5"), keyed(2, 2, ""), keyed(4, 2, "\x08")} {
				for _, c := range []string{b + wrong, wrong + b} {
					_, e := proto.Read(x, []byte(c))
					if _, want := reckonRead(x, []byte(c)); e != want && (len(c) <= 16 || e != api.ErrLimit) {
						t.Errorf("P12.3: Read(% x): %d, want %d", c, e, want)
					}
				}
			}
		}
	}
	wantRead(t, x, []byte("\x0a\x05"+"1e999"+"\x0a\x03"+"0.5"), api.Value{}, api.ErrProto)
}
