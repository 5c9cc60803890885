package proto

import "calamus/api"

// The wires: what stands behind a field's number.
const (
	wireVarint = 0
	wireFixed  = 1 // eight bytes, the lowest first
	wireBytes  = 2 // a length, and so many bytes
)

// A field's key is its number, this many times, and its wire.
const keyStep = 8

// The last byte that a varint may have is of the highest bit alone: the others stand in the nine bytes ahead of it.
const (
	mostVarint = 10
	lastVarint = 1
)

// piece is what stands in a field.
type piece struct {
	place int // in the record, from 0 on
	wire  uint64
	word  uint64 // of wireVarint and wireFixed
	bytes []byte // of wireBytes
}

// want gives up, unless the piece has that wire.
func (p piece) want(wire uint64) piece {
	if p.wire != wire {
		panic(api.ErrProto)
	}
	return p
}

// scanner goes through bytes, and gives up where they do not go on as they must.
type scanner struct {
	left []byte
}

// take takes the next n bytes.
func (s *scanner) take(n uint64) []byte {
	if n > uint64(len(s.left)) {
		panic(api.ErrProto)
	}
	b := s.left[:n]
	s.left = s.left[n:]
	return b
}

func (s *scanner) varint() uint64 {
	n := uint64(0)
	for i := range mostVarint {
		c := s.take(1)[0]
		if i == mostVarint-1 && c > lastVarint {
			break
		}
		n |= uint64(c&0x7f) << (7 * i)
		if c < 0x80 {
			return n
		}
	}
	panic(api.ErrProto)
}

func (s *scanner) fixed() uint64 {
	n := uint64(0)
	for i, c := range s.take(8) {
		n |= uint64(c) << (8 * i)
	}
	return n
}

// piece takes what stands in a field of that wire.
func (s *scanner) piece(wire uint64) piece {
	switch wire {
	case wireVarint:
		return piece{wire: wire, word: s.varint()}
	case wireFixed:
		return piece{wire: wire, word: s.fixed()}
	case wireBytes:
		return piece{wire: wire, bytes: s.take(s.varint())}
	}
	panic(api.ErrProto)
}

// fields are those of a message of a record of so many names. Those whose number is none of the record's are left out.
func fields(b []byte, names int) []piece {
	var l []piece
	s := scanner{b}
	for len(s.left) > 0 {
		key := s.varint()
		p := s.piece(key % keyStep)
		if number := key / keyStep; number >= 1 && number <= uint64(names) {
			p.place = int(number) - 1
			l = append(l, p)
		}
	}
	return l
}

// elements are what a list's field has, as if each element had come by itself: several, or none, of a packed one.
func elements(t api.Type, p piece) []piece {
	wire := packedWire(t)
	if p.wire != wireBytes || wire == wireBytes {
		return []piece{p}
	}
	var l []piece
	s := scanner{p.bytes}
	for len(s.left) > 0 {
		l = append(l, s.piece(wire))
	}
	return l
}

// packedWire is the wire that each element of a packed list of t would have by itself; wireBytes, if such lists are never packed.
func packedWire(t api.Type) uint64 {
	switch t.Kind {
	case api.TypeBool, api.TypeInt:
		return wireVarint
	case api.TypeFloat:
		return wireFixed
	}
	return wireBytes
}
