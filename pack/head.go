package pack

import (
	"strconv"

	"calamus/api"
	"calamus/fbits"
)

// head is what an item begins with, as far as it has come.
type head struct {
	first byte
	left  int    // bytes behind the first one that have to come
	n     uint64 // these bytes as a number
}

// widthOf tells how many bytes of a head stand behind its first one: of an extension its kind, too.
func widthOf(first byte) int {
	switch first {
	case firstBytes8, firstText8, firstNumber8, firstSigned8:
		return 1
	case firstBytes16, firstText16, firstNumber16, firstSigned16, firstList16, firstRecord16:
		return 2
	case firstBytes32, firstText32, firstNumber32, firstSigned32, firstList32, firstRecord32, firstFloat32:
		return 4
	case firstNumber64, firstSigned64, firstFloat64:
		return 8
	case firstExt8, firstExt16, firstExt32:
		return 1<<(first-firstExt8) + 1
	}
	if first >= firstFixed1 && first <= firstFixed16 {
		return 1
	}
	return 0
}

// takeFirst goes on by the first byte of a head.
func (r *Reader) takeFirst(c byte) {
	r.head = head{first: c, left: widthOf(c)}
	if r.head.left == 0 {
		r.takeHead(c, 0)
	}
}

// takeInHead goes on by a further byte of a head.
func (r *Reader) takeInHead(c byte) {
	r.head.n = r.head.n<<8 | uint64(c)
	r.head.left--
	if r.head.left == 0 {
		r.takeHead(r.head.first, r.head.n)
	}
}

// takeHead goes on by a whole head: a small item's is read as that of the same item with a number behind it.
func (r *Reader) takeHead(first byte, n uint64) {
	switch {
	case first < smallRecord:
		n = uint64(first)
		fallthrough
	case first >= firstNumber8 && first <= firstNumber64:
		r.takeNumber(strconv.FormatUint(n, 10))

	case first >= smallBelow:
		n = uint64(first)
		fallthrough
	case first >= firstSigned8 && first <= firstSigned64:
		r.takeNumber(strconv.FormatInt(signed(n, max(widthOf(first), 1)), 10))

	case first >= smallText && first < firstNull:
		n = uint64(first - smallText)
		fallthrough
	case first >= firstText8 && first <= firstText32:
		r.beginRow(api.EvText, n)

	case first >= smallList && first < smallText:
		n = uint64(first - smallList)
		fallthrough
	case first == firstList16, first == firstList32:
		r.beginList(n)

	case first >= smallRecord && first < smallList:
		n = uint64(first - smallRecord)
		fallthrough
	case first == firstRecord16, first == firstRecord32:
		r.beginRecord(n)

	case first >= firstFixed1 && first <= firstFixed16:
		n |= 1 << (first - firstFixed1) << 8 // its length, as if it stood there
		fallthrough
	case first >= firstExt8 && first <= firstExt32:
		r.beginExtension(byte(n), n>>8)

	default:
		r.takeOther(first, n)
	}
}

// signed is the signed number that the lowest bytes of n are, so many.
func signed(n uint64, width int) int64 {
	above := 64 - 8*width
	return int64(n<<above) >> above
}

// takeOther goes on by the head of an item that has no small form.
func (r *Reader) takeOther(first byte, n uint64) {
	switch first {
	case firstNull:
		r.scalar(api.Event{Kind: api.EvNull})
	case firstFalse, firstTrue:
		r.scalar(api.Event{Kind: api.EvBool, Flag: first == firstTrue})
	case firstBytes8, firstBytes16, firstBytes32:
		r.beginRow(api.EvBytes, n)
	case firstFloat32:
		n = fbits.Widen32(uint32(n))
		fallthrough
	case firstFloat64:
		r.scalar(api.Event{Kind: api.EvFloat, Bits: n})
	default:
		panic(api.ErrPack)
	}
}
