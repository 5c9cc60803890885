package xml_test

import (
	"fmt"
	"math/rand"
	"slices"
	"strconv"
	"strings"
	"testing"

	"calamus/api"
	"calamus/cbor"
	"calamus/event"
	"calamus/fbits"
	"calamus/json"
	"calamus/pack"
	"calamus/xml"
)

// reader is what the readers of all formats are.
type reader interface {
	Feed(b []byte) ([]api.Event, api.Errno)
	End() ([]api.Event, api.Errno)
}

// format is one of the formats that stand so far.
type format struct {
	name  string
	write func(v api.Value) ([]byte, api.Errno)
	read  func(b []byte) (api.Value, api.Errno)
	open  func() reader
	none  reader    // that is nil
	wrong api.Errno // what bytes are refused with that are no document
	loose func(v api.Value) string
}

// formats are those of layers 7 to 10; loose lays out values beyond the limits, too, in a form that need not be the value's document.
func formats() []format {
	return []format{
		{"json", json.Write, json.Read, func() reader { return json.New() }, (*json.Reader)(nil), api.ErrJson, looseJson},
		{"cbor", cbor.Write, cbor.Read, func() reader { return cbor.New() }, (*cbor.Reader)(nil), api.ErrCbor, looseCbor},
		{"pack", pack.Write, pack.Read, func() reader { return pack.New() }, (*pack.Reader)(nil), api.ErrPack, loosePack},
		{"xml", xml.Write, xml.Read, func() reader { return xml.New() }, (*xml.Reader)(nil), api.ErrXml, looseXml},
	}
}

// exponent is a number as m times ten to a power, of whatever size.
func exponent(n api.Num) string {
	sign := ""
	if n.Neg {
		sign = "-"
	}
	return sign + n.Digits + "e" + strconv.Itoa(n.Exp)
}

// looseParts are the documents of the elements of v.
func looseParts(v api.Value, loose func(api.Value) string) []string {
	var l []string
	for _, w := range v.List {
		l = append(l, loose(w))
	}
	return l
}

// quoted is a text of letters without a `$` at its beginning.
func quoted(s string) string { return `"` + s + `"` }

func looseJson(v api.Value) string {
	l := looseParts(v, looseJson)
	switch v.Kind {
	case api.KindNum:
		return exponent(v.Num)
	case api.KindText:
		return quoted(v.Text)
	case api.KindBytes:
		return fmt.Sprintf(`{"$bytes":"%x"}`, v.Text)
	case api.KindList:
		return "[" + strings.Join(l, ",") + "]"
	case api.KindRecord:
		for i, n := range v.Names {
			l[i] = quoted(n) + ":" + l[i]
		}
		return "{" + strings.Join(l, ",") + "}"
	case api.KindTag:
		return `{"$tag":[` + quoted(v.Text) + "," + l[0] + "]}"
	}
	return "null"
}

// wide is a first byte, and n in four bytes.
func wide(first byte, n int) string {
	return string([]byte{first, byte(n >> 24), byte(n >> 16), byte(n >> 8), byte(n)})
}

func looseCbor(v api.Value) string {
	within := strings.Join(looseParts(v, looseCbor), "")
	switch v.Kind {
	case api.KindNum:
		exp := wide(0x1a, v.Num.Exp)
		if v.Num.Exp < 0 {
			exp = wide(0x3a, -1-v.Num.Exp)
		}
		n, _ := strconv.Atoi(v.Num.Digits)
		return "\xc4\x82" + exp + wide(0x1a, n)
	case api.KindText:
		return wide(0x7a, len(v.Text)) + v.Text
	case api.KindBytes:
		return wide(0x5a, len(v.Text)) + v.Text
	case api.KindList:
		return wide(0x9a, len(v.List)) + within
	case api.KindRecord:
		s := wide(0xba, len(v.List))
		for i, n := range v.Names {
			s += looseCbor(text(n)) + looseCbor(v.List[i])
		}
		return s
	case api.KindTag:
		return "\xd8\x1b\x82" + looseCbor(text(v.Text)) + within
	}
	return "\xf6"
}

func loosePack(v api.Value) string {
	within := strings.Join(looseParts(v, loosePack), "")
	switch v.Kind {
	case api.KindNum:
		s := exponent(v.Num)
		return wide(0xc9, len(s)) + "\x01" + s
	case api.KindText:
		return wide(0xdb, len(v.Text)) + v.Text
	case api.KindBytes:
		return wide(0xc6, len(v.Text)) + v.Text
	case api.KindList:
		return wide(0xdd, len(v.List)) + within
	case api.KindRecord:
		s := wide(0xdf, len(v.List))
		for i, n := range v.Names {
			s += loosePack(text(n)) + loosePack(v.List[i])
		}
		return s
	case api.KindTag:
		return "\x81\xa4$tag\x92" + loosePack(text(v.Text)) + within
	}
	return "\xc0"
}

func looseXml(v api.Value) string {
	l := looseParts(v, looseXml)
	switch v.Kind {
	case api.KindNum:
		return "<num>" + exponent(v.Num) + "</num>"
	case api.KindList:
		return "<list>" + strings.Join(l, " ") + "</list>"
	case api.KindRecord:
		for i, n := range v.Names {
			l[i] = `<field name="` + n + `">` + l[i] + "</field>"
		}
		return "<record>" + strings.Join(l, "\n") + "</record>"
	case api.KindTag:
		return `<tag name="` + v.Text + `">` + l[0] + "</tag>"
	}
	return document(v)
}

// carry writes v in a format and reads it again: what it answers is v, or carry tells the fault.
func carry(t *testing.T, promise string, f format, v api.Value) (api.Value, []byte) {
	t.Helper()
	b, e := f.write(v)
	if e != api.OK {
		t.Fatalf("%s: %s.Write = %d", promise, f.name, e)
	}
	w, e := f.read(b)
	if e != api.OK || !same(v, w) {
		t.Fatalf("%s: %s.Read(%q) = %v, %d", promise, f.name, short(string(b)), w, e)
	}
	return w, b
}

// carryAll carries v through all formats, in their order.
func carryAll(t *testing.T, promise string, v api.Value) {
	t.Helper()
	for _, f := range formats() {
		v, _ = carry(t, promise, f, v)
	}
}

// T2: a value stays what it is, and has the same document, from whatever format to whatever other it is carried.
func TestFormatToFormat(t *testing.T) {
	r := rand.New(rand.NewSource(111))
	values := slices.Clone(scalars())
	for range 1000 {
		values = append(values, someValue(r, 6))
	}
	for _, v := range values {
		for _, from := range formats() {
			w, _ := carry(t, "T2", from, v)
			for _, to := range formats() {
				_, b := carry(t, "T2", to, w)
				if direct, e := to.write(v); e != api.OK || string(direct) != string(b) {
					t.Errorf("T2: from %s to %s: %q, want %q, %d", from.name, to.name, short(string(b)), short(string(direct)), e)
				}
			}
		}
	}
}

// T1: each float's bits come through all formats: of all patterns of 16 bits, of many of 32 and of 64.
func TestFloatsThroughFormats(t *testing.T) {
	r := rand.New(rand.NewSource(112))
	var patterns []uint64
	for h := range 1 << 16 {
		patterns = append(patterns, fbits.Widen16(uint16(h)), uint64(h)<<48|1, uint64(h)<<48|0x20000000, uint64(h))
	}
	for range 20000 {
		patterns = append(patterns, r.Uint64(), fbits.Widen32(r.Uint32()))
	}
	for bit := range 64 {
		patterns = append(patterns, 1<<bit, 1<<bit-1, ^uint64(1<<bit), 0x7ff0000000000000|1<<bit, 0xfff0000000000000|1<<bit)
	}
	for l := range slices.Chunk(patterns, 256) {
		v := list()
		for _, b := range l {
			v.List = append(v.List, float(b))
		}
		carryAll(t, "T1", v)
	}
}

// T1: each number comes through all formats: of each power of ten, of each count of digits, of both signs.
func TestNumbersThroughFormats(t *testing.T) {
	r := rand.New(rand.NewSource(113))
	for exp := -400; exp <= 400; exp++ {
		v := list()
		for k := 1; k <= 40; k++ {
			some := ""
			for range k {
				some += strconv.Itoa(1 + r.Intn(9))
			}
			for _, d := range []string{some, strings.Repeat("9", k), "1" + strings.Repeat("0", max(k-2, 0)) + "1"} {
				v.List = append(v.List, number(api.Num{Neg: r.Intn(2) == 0, Digits: d, Exp: exp}))
			}
		}
		carryAll(t, "T1", v)
	}
	v := list()
	for n := range 1 << 16 {
		if v.List = append(v.List, decimal(n)); len(v.List) == 256 {
			carryAll(t, "T1", v)
			v.List = nil
		}
	}
}

// decimal is the number n.
func decimal(n int) api.Value {
	s := strconv.Itoa(n)
	d := strings.TrimRight(s, "0")
	if d == "" {
		return whole("0")
	}
	return number(api.Num{Digits: d, Exp: len(s) - len(d)})
}

// T1, T2: each character comes through all formats, in texts, in names and in tags' names.
func TestCharactersThroughFormats(t *testing.T) {
	var chars []rune
	for r := range rune(0x10ffff + 1) {
		if r < 0xd800 || r > 0xdfff {
			chars = append(chars, r)
		}
	}
	for l := range slices.Chunk(chars, 1000) {
		carryAll(t, "T2", text(string(l)))
	}
	for l := range slices.Chunk(chars[:0x3000], 100) {
		v := record("")
		for _, r := range l {
			v.Names = append(v.Names, string(r), "$"+string(r))
			v.List = append(v.List, tag(string(r)+"$", null), null)
		}
		carryAll(t, "T2", v)
		carryAll(t, "T2", named(string(l[:16]), tag(string(l[len(l)-16:]), null)))
	}
}

// T2: all bytes come through all formats, each beside each other one.
func TestBytesThroughFormats(t *testing.T) {
	for c := range 256 {
		var all []byte
		for d := range 256 {
			all = append(all, byte(c), byte(d))
		}
		carryAll(t, "T2", list(raw(string(all)), raw(string(all[:1])), raw(string(all[:c]))))
	}
	for _, n := range []int{0, 1, 23, 24, 31, 32, 255, 256, 4095, 4096} {
		carryAll(t, "T2", raw(strings.Repeat("\xff", n)))
		carryAll(t, "T2", text(strings.Repeat("a", n)))
	}
}

// limits are values that just meet a limit, and pass it. Their names and texts are letters.
func limits() []struct{ just, over api.Value } {
	times := strings.Repeat
	deep := func(n int, around func(api.Value) api.Value, v api.Value) api.Value {
		for range n {
			v = around(v)
		}
		return v
	}
	inList := func(v api.Value) api.Value { return list(v) }
	inRecord := func(v api.Value) api.Value { return record("a", v) }
	inTag := func(v api.Value) api.Value { return tag("t", v) }
	nulls := func(n int) api.Value { return list(slices.Repeat([]api.Value{null}, n)...) }
	wideRecord := func(n int) api.Value {
		v := record("")
		for i := range n {
			v.Names = append(v.Names, "n"+strconv.Itoa(i))
			v.List = append(v.List, list())
		}
		return v
	}
	sized := func(n int) api.Value { // a list with n values in it, itself too
		v := list(slices.Repeat([]api.Value{nulls(255)}, 15)...)
		v.List = append(v.List, nulls(n-2-15*256))
		return v
	}
	return []struct{ just, over api.Value }{
		{text(times("a", 4096)), text(times("a", 4097))}, {raw(times("a", 4096)), raw(times("a", 4097))}, {named(times("a", 64), null), named(times("a", 65), null)}, {record("b "+times("a", 64), null, null), record("b "+times("a", 65), null, null)}, {tag(times("a", 64), null), tag(times("a", 65), null)},
		{nulls(256), nulls(257)}, {wideRecord(256), wideRecord(257)}, {sized(4096), sized(4097)},
		{deep(15, inList, list()), deep(16, inList, list())}, {deep(15, inList, null), deep(16, inList, null)}, {deep(15, inRecord, null), deep(16, inRecord, null)}, {deep(15, inTag, null), deep(16, inTag, null)}, {deep(15, inTag, record("")), deep(40, inTag, record(""))},
		{number(api.Num{Digits: "1", Exp: 400}), number(api.Num{Digits: "1", Exp: 401})}, {number(api.Num{Digits: "1", Exp: -400}), number(api.Num{Digits: "1", Exp: -401})}, {number(api.Num{Digits: "7", Exp: 400}), number(api.Num{Digits: "7", Exp: 99999})},
	}
}

// What is beyond the limits is refused by all formats, in and out, whole and in parts; what just meets them is not.
func TestLimitsOfFormats(t *testing.T) {
	for i, c := range limits() {
		carryAll(t, "T2", c.just)
		for _, f := range formats() {
			if v, e := f.read([]byte(f.loose(c.just))); e != api.OK || !same(v, c.just) {
				t.Errorf("T2: limit %d: %s.Read of what just meets it: %d", i, f.name, e)
			}
			for _, over := range []api.Value{c.over, list(null, c.over), record("a b", c.over, null), tag("t", c.over)} {
				doc := f.loose(over)
				want := api.ErrLimit
				if v, e := f.read([]byte(doc)); e != want || !isZero(v) {
					t.Errorf("T2: limit %d: %s.Read of what passes it: %d", i, f.name, e)
				}
				if _, e := partsOf(f, doc, 7); e != want {
					t.Errorf("T3: limit %d: %s.Feed of what passes it: %d", i, f.name, e)
				}
				if c.over.Kind == api.KindNum { // that is no value
					want = api.ErrValueForm
				}
				if b, e := f.write(over); e != want || len(b) > 0 {
					t.Errorf("T2: limit %d: %s.Write of what passes it: %d bytes, %d", i, f.name, len(b), e)
				}
			}
		}
	}
}

// A document of more than 65536 bytes is written and read by no format.
func TestLongDocuments(t *testing.T) {
	long := list(slices.Repeat([]api.Value{text(strings.Repeat("a", 4096))}, 16)...)
	for _, f := range formats() {
		if b, e := f.write(long); e != api.ErrLimit || len(b) > 0 {
			t.Errorf("T2: %s.Write = %d bytes, %d", f.name, len(b), e)
		}
		doc := f.loose(long)
		if v, e := f.read([]byte(doc)); e != api.ErrLimit || !isZero(v) {
			t.Errorf("T2: %s.Read = %d", f.name, e)
		}
		for _, size := range []int{1, 4096, 65536, 65537} {
			if _, e := partsOf(f, doc, size); e != api.ErrLimit {
				t.Errorf("T3: %s in parts of %d = %d", f.name, size, e)
			}
		}
	}
}

// partsOf feeds a document in parts of that size, and ends; it answers the events in all, and the error.
func partsOf(f format, doc string, size int) ([]api.Event, api.Errno) {
	r := f.open()
	var all []api.Event
	for part := range slices.Chunk([]byte(doc), size) {
		l, e := r.Feed(part)
		if e != api.OK {
			return all, e
		}
		all = append(all, l...)
	}
	l, e := r.End()
	return append(all, l...), e
}

// T3: the events of all formats, in whatever parts, are the value's.
func TestPartsOfFormats(t *testing.T) {
	r := rand.New(rand.NewSource(114))
	for range 500 {
		v := someValue(r, 6)
		want, _ := event.Flatten(v)
		for _, f := range formats() {
			b, _ := f.write(v)
			for _, size := range []int{1, 2, 3, 1 + r.Intn(20), len(b)} {
				if l, e := partsOf(f, string(b), size); e != api.OK || !slices.Equal(l, want) {
					t.Errorf("T3: %s: %q in parts of %d: %v, %d", f.name, short(string(b)), size, l, e)
				}
			}
		}
	}
}

// T7: any bytes are taken or refused with one of two errors, whole and in parts alike: documents of all formats, also changed ones, put to all formats.
func TestAnyBytes(t *testing.T) {
	r := rand.New(rand.NewSource(115))
	for range 2000 {
		for _, from := range formats() {
			b, _ := from.write(someValue(r, 4))
			for range r.Intn(4) {
				at := r.Intn(len(b) + 1)
				b = slices.Concat(b[:at], []byte{byte(r.Intn(256))}, b[min(at+r.Intn(2), len(b)):])
			}
			for _, f := range formats() {
				askAny(t, f, b)
			}
		}
	}
}

// askAny asks Read and the reader of a format for answers that they may give.
func askAny(t *testing.T, f format, b []byte) {
	t.Helper()
	v, e := f.read(b)
	if e != api.OK && e != f.wrong && e != api.ErrLimit {
		t.Errorf("T7: %s.Read(%q) = %d", f.name, b, e)
	}
	if e != api.OK && !isZero(v) {
		t.Errorf("T7: %s.Read(%q) = %v, %d", f.name, b, v, e)
	}
	l, got := partsOf(f, string(b), 3)
	if got != e {
		t.Errorf("T3: %s: %q in parts: %d, Read answers %d", f.name, b, got, e)
	}
	if want, _ := event.Flatten(v); e == api.OK && !slices.Equal(l, want) {
		t.Errorf("T3: %s: %q in parts: %v, want %v", f.name, b, l, want)
	}
}

// R3: a reader that is nil answers ErrNil, of whatever format.
func TestNoReaders(t *testing.T) {
	for _, f := range formats() {
		for _, b := range [][]byte{nil, []byte("x"), []byte(strings.Repeat("a", 70000))} {
			if l, e := f.none.Feed(b); e != api.ErrNil || len(l) > 0 {
				t.Errorf("R3: %s: Feed of none = %v, %d", f.name, l, e)
			}
			if l, e := f.none.End(); e != api.ErrNil || len(l) > 0 {
				t.Errorf("R3: %s: End of none = %v, %d", f.name, l, e)
			}
		}
	}
}
