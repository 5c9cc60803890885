package proto_test

import (
	"bytes"
	"math/rand"
	"strings"
	"testing"

	"calamus/api"
	"calamus/proto"
	"calamus/types"
	"calamus/value"
)

// sameRead asks that Read answers what is reckoned, and tells whether b is a message within the limits.
func sameRead(t *testing.T, x api.Type, b []byte) bool {
	t.Helper()
	v, e := proto.Read(x, b)
	want, f := reckonRead(x, b)
	if e != f && (f != api.ErrProto || e != api.ErrLimit || len(b) <= 16) || !value.Equal(v, want) {
		t.Errorf("P12.3: Read(%s, % x) = %s, %d, want %s, %d", told(x), clip(b), told(v), e, told(want), f)
	}
	return e == api.OK
}

// sameWrite asks that Write answers what is reckoned, and that it is read as the same value.
func sameWrite(t *testing.T, x api.Type, v api.Value) []byte {
	t.Helper()
	b, e := proto.Write(x, v)
	want, f := reckonWrite(x, v)
	if string(b) != want || e != f {
		t.Errorf("P12.2: Write(%s, %s) = % x, %d, want % x, %d", told(x), told(v), clip(b), e, clip([]byte(want)), f)
	}
	if e != api.OK {
		return nil
	}
	if w, e := proto.Read(x, b); !value.Equal(w, v) || e != api.OK {
		t.Errorf("P12.4: %s is written and read as %s, %d, by %s", told(v), told(w), e, told(x))
	}
	return b
}

// canonical asks that a message's value is one of the type's, and is written as the one document of that value.
func canonical(t *testing.T, x api.Type, b []byte) {
	t.Helper()
	v, e := proto.Read(x, b)
	if e != api.OK {
		return
	}
	if is, e := types.Has(x, v); !is || e != api.OK {
		t.Errorf("P12.3: Read(%s, % x) = %s, which is none of its values", told(x), clip(b), told(v))
	}
	sameWrite(t, x, v)
}

// eachText goes through all texts of up to n bytes, each of them one of some.
func eachText(n int, some string, f func(b []byte)) {
	b := make([]byte, 0, n)
	var more func()
	more = func() {
		f(b)
		if len(b) == n {
			return
		}
		for i := range len(some) {
			b = append(b, some[i])
			more()
			b = b[:len(b)-1]
		}
	}
	more()
}

// P12.3 and T2, of all short texts of the bytes that matter.
func TestAllShort(t *testing.T) {
	x := []api.Type{
		recordOf(""), recordOf("a", recordOf("")), recordOf("a", recordOf("b", boolType)), recordOf("a", listOf(recordOf("b", listOf(boolType)))), recordOf("a b", intType, listOf(intType)), recordOf("a b", textType, bytesType), recordOf("a b", listOf(textType), numType), recordOf("a", listOf(numType)),
	}
	for _, u := range plainTypes() {
		x = append(x, recordOf("a", u), recordOf("a", listOf(u)))
	}
	for _, u := range x {
		good := 0
		eachText(5, "\x00\x01\x02\x08\x0a\x12\x80\x31", func(b []byte) {
			if sameRead(t, u, b) {
				good++
				if len(b) < 5 {
					canonical(t, u, b)
				}
			}
		})
		if good < 100 {
			t.Errorf("only %d messages of %s", good, told(u))
		}
	}
}

// P12.3: all first bytes, and all second ones.
func TestAllBytes(t *testing.T) {
	for _, u := range plainTypes() {
		for _, x := range []api.Type{recordOf("a", u), recordOf("a b c", listOf(u), u, recordOf("d", u))} {
			for i := range 1 << 16 {
				sameRead(t, x, []byte{byte(i >> 8), byte(i)})
			}
			for i := range 1 << 16 {
				sameRead(t, x, []byte{0x0a, byte(i>>8) % 3, byte(i), byte(i >> 8)})
			}
		}
	}
}

// P12.2 and P12.4, of each plain value, by itself, in lists of one and two, and in records.
func TestAllPlain(t *testing.T) {
	for _, u := range plainTypes() {
		l := plainValues(u.Kind)
		for i, v := range l {
			w := l[(i+1)%len(l)]
			for _, y := range []struct {
				t api.Type
				v api.Value
			}{
				{recordOf("a", u), record("a", v)},
				{recordOf("a b", u, u), record("a b", w, v)},
				{recordOf("a", listOf(u)), record("a", list(v))},
				{recordOf("a", listOf(u)), record("a", list(v, w))},
				{recordOf("a", listOf(u)), record("a", list(w, v, v))},
				{recordOf("a b", recordOf("c", u), u), record("a b", record("c", v), w)},
				{recordOf("a", listOf(recordOf("c", u))), record("a", list(record("c", v), record("c", w)))},
				{recordOf("a", recordOf("c", listOf(recordOf("d", listOf(u))))), record("a", record("c", list(record("d", list(v)), record("d", list()))))},
			} {
				sameWrite(t, y.t, y.v)
			}
		}
	}
}

// damaged is b with a change somewhere.
func damaged(r *rand.Rand, b []byte) []byte {
	b = bytes.Clone(b)
	if len(b) == 0 {
		return []byte{byte(r.Intn(256))}
	}
	i := r.Intn(len(b))
	switch r.Intn(5) {
	case 0:
		b[i] = byte(r.Intn(256))
	case 1:
		b[i] ^= 1 << r.Intn(8)
	case 2:
		b = append(b[:i], b[i+1:]...)
	case 3:
		b = append(b[:i], append([]byte{byte(r.Intn(256))}, b[i:]...)...)
	case 4:
		b = b[:i]
	}
	return b
}

// mixed is a message that is not written so: fields cut apart, laid in another order and again, with others that are left out.
func mixed(r *rand.Rand, x api.Type, b []byte) []byte {
	l, _ := cutParts(string(b))
	var out strings.Builder
	for _, i := range r.Perm(len(l)) {
		for range 1 + r.Intn(2) {
			p := l[i]
			s := p.rest
			switch p.wire {
			case 0:
				s = varintOf(p.digits)
				if len(s) < 10 && r.Intn(2) == 0 { // not a short one
					s = s[:len(s)-1] + string([]byte{s[len(s)-1] | 128, 0})
				}
			case 1:
				s = p.eight
			}
			out.WriteString(keyed(int(p.number.Int64()), p.wire, s))
		}
		if r.Intn(3) == 0 {
			out.WriteString(keyed(len(x.List)+1+r.Intn(3), 2, "\xff"))
		}
	}
	return []byte(out.String())
}

// P12.2, P12.3 and T2, of types and values of all sorts, and of messages that are changed.
func TestSome(t *testing.T) {
	r := rand.New(rand.NewSource(12))
	good, all := 0, 0
	for range 6000 {
		x := someRecord(r, 2+r.Intn(4))
		b := sameWrite(t, x, valueOf(r, x))
		m := mixed(r, x, b)
		canonical(t, x, m)
		for _, c := range [][]byte{b, m, damaged(r, b), damaged(r, damaged(r, b)), damaged(r, m), append(bytes.Clone(m), b...)} {
			all++
			if len(c) < 20000 && sameRead(t, x, c) {
				good++
			}
		}
	}
	if good < all/4 || good > all*9/10 {
		t.Errorf("%d of %d are messages", good, all)
	}
}

// P12.3: a message of one type, read by another.
func TestOtherType(t *testing.T) {
	r := rand.New(rand.NewSource(13))
	good := 0
	for range 20000 {
		x, y := someRecord(r, 3), someRecord(r, 3)
		b, e := proto.Write(x, valueOf(r, x))
		if e == api.OK && len(b) < 5000 && sameRead(t, y, b) {
			good++
		}
	}
	if good < 1000 {
		t.Errorf("only %d are messages", good)
	}
}

// behind is the value of two documents, one behind the other.
func behind(x api.Type, v, w api.Value) api.Value {
	both := api.Value{Kind: api.KindRecord, Names: v.Names}
	for i, u := range x.List {
		switch {
		case u.Kind == api.TypeList:
			both.List = append(both.List, list(append(append([]api.Value{}, v.List[i].List...), w.List[i].List...)...))
		case value.Equal(w.List[i], none(u)): // then it says nothing
			both.List = append(both.List, v.List[i])
		default:
			both.List = append(both.List, w.List[i])
		}
	}
	return both
}

// P12.4: two messages, one behind the other, are a message.
func TestBehind(t *testing.T) {
	r := rand.New(rand.NewSource(14))
	for range 5000 {
		x := someRecord(r, 2+r.Intn(3))
		v, w := valueOf(r, x), valueOf(r, x)
		b, e := proto.Write(x, v)
		c, f := proto.Write(x, w)
		if e != api.OK || f != api.OK {
			continue
		}
		wantRead(t, x, append(bytes.Clone(b), c...), behind(x, v, w), api.OK)
		wantRead(t, x, append(bytes.Clone(b), b...), behind(x, v, v), api.OK)
	}
}

// P12.4: what the first of two messages says where the second one says nothing counts, whatever else the two say; a second one that says it is none counts, too.
func TestSecondSaysNothing(t *testing.T) {
	x := recordOf("a b c d", intType, textType, listOf(boolType), recordOf("e f", intType, listOf(intType)))
	first := "\x08\x02\x12\x01x\x18\x01\x22\x04\x08\x02\x10\x02"
	one := number("1", 0)
	v := record("a b c d", one, text("x"), list(flag(true)), record("e f", one, list(one)))
	for second, at := range map[string]int{"": -1, "\x08\x00": 0, "\x0a\x010": 0, "\x12\x00": 1, "\x1a\x00": -1, "\x22\x00": 3, "\x22\x02\x12\x00": 3, "\x28\x00": -1} {
		want := v
		want.List = append([]api.Value{}, v.List...)
		if at >= 0 {
			want.List[at] = none(x.List[at])
		}
		wantRead(t, x, []byte(first+second), want, api.OK)
	}
}

// T1: a number is the same in whatever way it stands, a float keeps all its bits.
func TestNumbers(t *testing.T) {
	r := rand.New(rand.NewSource(15))
	x := recordOf("a b c d e f", intType, numType, floatType, listOf(intType), listOf(numType), listOf(floatType))
	for range 20000 {
		z := r.Uint64() >> r.Intn(64)
		sameRead(t, recordOf("a", intType), append([]byte{8}, varintText(z)...))
		n, f := number("0", 0), float(r.Uint64())
		if v, e := proto.Read(recordOf("a", intType), append([]byte{8}, varintText(z)...)); e == api.OK {
			n = v.List[0]
		}
		sameWrite(t, x, record("a b c d e f", n, n, f, list(n, n), list(n), list(f, f)))
	}
}

func varintText(n uint64) []byte {
	var b []byte
	for ; n >= 128; n /= 128 {
		b = append(b, byte(n)|128)
	}
	return append(b, byte(n))
}
