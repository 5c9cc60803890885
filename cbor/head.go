package cbor

import (
	"calamus/api"
	"calamus/fbits"
)

// head is one, as far as it has come.
type head struct {
	first byte
	left  int // bytes of its number that have to come
	n     uint64
}

func (h head) major() byte { return h.first >> 5 }

func (h head) info() byte { return h.first & 0x1f }

// takeFirst goes on by the first byte of a head.
func (r *Reader) takeFirst(c byte) {
	r.head = head{first: c}
	info := r.head.info()
	switch {
	case c == firstBreak:
		r.endParts()
	case info <= infoGreatest:
		r.head.n = uint64(info)
		r.takeHead()
	case info <= infoLast:
		r.head.left = 1 << (info - infoByte)
	case info == infoParts:
		r.beginParts()
	default:
		panic(api.ErrCbor)
	}
}

// takeInHead goes on by a byte of a head's number.
func (r *Reader) takeInHead(c byte) {
	r.head.n = r.head.n<<8 | uint64(c)
	r.head.left--
	if r.head.left == 0 {
		r.takeHead()
	}
}

// takeHead goes on by a whole head.
func (r *Reader) takeHead() {
	major, n := r.head.major(), r.head.n
	if r.row.parts {
		r.beginPiece(major, n)
		return
	}
	switch major {
	case majorWhole, majorBelow:
		r.takeWhole(n, major == majorBelow)
	case majorBytes, majorText:
		r.beginRow(major)
		r.beginPiece(major, n)
	case majorList:
		r.beginList(false, n)
	case majorRecord:
		r.beginRecord(false, n)
	case majorMark:
		r.takeMark(n)
	case majorOther:
		r.takeOther(r.head.first, n)
	}
}

// beginParts goes on by the head of what comes in parts.
func (r *Reader) beginParts() {
	if r.row.parts { // its pieces have none
		panic(api.ErrCbor)
	}
	switch major := r.head.major(); major {
	case majorBytes, majorText:
		r.beginRow(major)
		r.row.parts = true
	case majorList:
		r.beginList(true, 0)
	case majorRecord:
		r.beginRecord(true, 0)
	default:
		panic(api.ErrCbor)
	}
}

// takeOther goes on by a bool, null or a float.
func (r *Reader) takeOther(first byte, n uint64) {
	switch first {
	case firstFalse, firstTrue:
		r.scalar(api.Event{Kind: api.EvBool, Flag: first == firstTrue})
	case firstNull:
		r.scalar(api.Event{Kind: api.EvNull})
	case firstFloat16:
		r.scalar(api.Event{Kind: api.EvFloat, Bits: fbits.Widen16(uint16(n))})
	case firstFloat32:
		r.scalar(api.Event{Kind: api.EvFloat, Bits: fbits.Widen32(uint32(n))})
	case firstFloat64:
		r.scalar(api.Event{Kind: api.EvFloat, Bits: n})
	default:
		panic(api.ErrCbor)
	}
}
