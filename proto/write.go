package proto

import (
	"math/bits"
	"strconv"

	"calamus/api"
	"calamus/num"
	"calamus/scribe"
	"calamus/value"
)

// writer lays a message out.
type writer struct {
	*scribe.Scribe
}

// message writes v, which is a value of t, a record.
func (w writer) message(t api.Type, v api.Value) {
	for i, u := range t.List {
		w.field(uint64(i+1), u, v.List[i])
	}
}

func (w writer) field(number uint64, t api.Type, v api.Value) {
	switch {
	case value.Equal(v, absent(t)):
		// it is read as just that, since nothing comes
	case t.Kind == api.TypeList:
		w.list(number, t.List[0], v.List)
	default:
		w.one(number, t, v)
	}
}

func (w writer) list(number uint64, t api.Type, l []api.Value) {
	if packedWire(t) == wireBytes {
		for _, v := range l {
			w.one(number, t, v)
		}
		return
	}
	w.bytes(number, scribe.Part(func(s *scribe.Scribe) {
		for _, v := range l {
			writer{s}.packed(v)
		}
	}))
}

// packed writes an element of a packed list.
func (w writer) packed(v api.Value) {
	switch v.Kind {
	case api.KindBool:
		w.flag(v.Flag)
	case api.KindFloat:
		w.fixed(v.Bits)
	default:
		z, fits := zigzag(printed(v))
		if !fits {
			panic(api.ErrLimit)
		}
		w.varint(z)
	}
}

// one writes a field that is no list, or that has one element of a list.
func (w writer) one(number uint64, t api.Type, v api.Value) {
	switch t.Kind {
	case api.TypeBool:
		w.key(number, wireVarint)
		w.flag(v.Flag)
	case api.TypeInt:
		w.whole(number, printed(v))
	case api.TypeNum:
		w.bytes(number, printed(v))
	case api.TypeFloat:
		w.key(number, wireFixed)
		w.fixed(v.Bits)
	case api.TypeText, api.TypeBytes:
		w.bytes(number, v.Text)
	case api.TypeRecord:
		w.bytes(number, scribe.Part(func(s *scribe.Scribe) {
			writer{s}.message(t, v)
		}))
	}
}

func (w writer) whole(number uint64, s string) {
	z, fits := zigzag(s)
	if !fits {
		w.bytes(number, s)
		return
	}
	w.key(number, wireVarint)
	w.varint(z)
}

func (w writer) key(number, wire uint64) {
	w.varint(number*keyStep + wire)
}

func (w writer) flag(b bool) {
	if b {
		w.varint(1)
	} else {
		w.varint(0)
	}
}

// fixed writes eight bytes, the lowest first.
func (w writer) fixed(n uint64) {
	w.Fixed(bits.ReverseBytes64(n), 8)
}

func (w writer) varint(n uint64) {
	for n >= 0x80 {
		w.Fixed(n&0x7f|0x80, 1)
		n >>= 7
	}
	w.Fixed(n, 1)
}

// bytes writes a whole field.
func (w writer) bytes(number uint64, s string) {
	w.key(number, wireBytes)
	w.varint(uint64(len(s)))
	w.Put(s)
}

// printed is the text of a number.
func printed(v api.Value) string {
	s, _ := num.Print(v.Num) // it is one: the value was checked
	return s
}

// zigzag tells a whole number's text as a varint; false, if 64 bits do not hold it. Of those that they hold the text is digits alone.
func zigzag(s string) (uint64, bool) {
	n, err := strconv.ParseInt(s, 10, 64)
	if err != nil {
		return 0, false
	}
	return uint64(n)<<1 ^ uint64(n>>63), true
}
