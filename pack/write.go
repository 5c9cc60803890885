package pack

import (
	"math/bits"
	"strconv"
	"strings"

	"calamus/api"
	"calamus/fbits"
	"calamus/num"
	"calamus/scribe"
)

// writer lays a document out.
type writer struct {
	*scribe.Scribe
}

// value writes v, which was checked.
func (w writer) value(v api.Value) {
	switch v.Kind {
	case api.KindNull:
		w.Fixed(firstNull, 1)
	case api.KindBool:
		w.flag(v.Flag)
	case api.KindNum:
		w.number(v.Num)
	case api.KindFloat:
		w.float(v.Bits)
	case api.KindText:
		w.text(v.Text)
	case api.KindBytes:
		w.wide(firstBytes8, 1, uint64(len(v.Text)))
		w.Put(v.Text)
	case api.KindList:
		w.list(v.List)
	case api.KindRecord:
		w.record(v)
	case api.KindTag:
		w.tag(v.Text, v.List[0])
	}
}

// wide writes the head of an item with n behind its first byte, in as few bytes as will do: first is the one for width bytes, each further one doubles that.
func (w writer) wide(first byte, width int, n uint64) {
	for n>>(8*width) > 0 {
		first, width = first+1, 2*width
	}
	w.Fixed(uint64(first), 1)
	w.Fixed(n, width)
}

func (w writer) flag(b bool) {
	if b {
		w.Fixed(firstTrue, 1)
	} else {
		w.Fixed(firstFalse, 1)
	}
}

// number writes a number. All of those that 64 bits hold are printed as their digits alone.
func (w writer) number(n api.Num) {
	s, _ := num.Print(n) // it is a number
	if whole, err := strconv.ParseUint(s, 10, 64); err == nil {
		w.whole(whole)
	} else if below, err := strconv.ParseInt(s, 10, 64); err == nil {
		w.below(below)
	} else {
		w.extension(s)
	}
}

func (w writer) whole(n uint64) {
	if n <= mostSmallNumber {
		w.Fixed(n, 1)
	} else {
		w.wide(firstNumber8, 1, n)
	}
}

// below writes a number below 0.
func (w writer) below(n int64) {
	if n >= leastSmallBelow {
		w.Fixed(uint64(n), 1)
		return
	}
	first, width := uint64(firstSigned8), 1
	for n>>(8*width-1) < -1 { // its highest bit there is not that of a number below 0
		first, width = first+1, 2*width
	}
	w.Fixed(first, 1)
	w.Fixed(uint64(n), width)
}

// extension writes a number's text.
func (w writer) extension(s string) {
	switch n := len(s); n {
	case 1, 2, 4, 8, 16:
		w.Fixed(firstFixed1+uint64(bits.TrailingZeros(uint(n))), 1)
	default:
		w.wide(firstExt8, 1, uint64(n))
	}
	w.Fixed(extNumber, 1)
	w.Put(s)
}

func (w writer) float(b uint64) {
	width, pattern := fbits.Narrow(b)
	switch width {
	case 16:
		pattern = single(b)
		fallthrough
	case 32:
		w.Fixed(firstFloat32, 1)
		w.Fixed(pattern, 4)
	default:
		w.Fixed(firstFloat64, 1)
		w.Fixed(pattern, 8)
	}
}

// single is the pattern of 32 bits that is widened to b, for which 16 would do. The exponent loses the three bits behind its highest one: so near to the middle of all exponents, and at both ends, these say nothing that the highest one and the others do not.
func single(b uint64) uint64 {
	return b>>32&0xc0000000 | b>>29&0x3fffffff
}

func (w writer) text(s string) {
	if len(s) <= mostSmallText {
		w.Fixed(smallText+uint64(len(s)), 1)
	} else {
		w.wide(firstText8, 1, uint64(len(s)))
	}
	w.Put(s)
}

// items writes the head of a list, or of a record, of n elements: small is its first byte if there are few, first if there are more.
func (w writer) items(small, first byte, n int) {
	if n <= mostSmallItems {
		w.Fixed(uint64(small)+uint64(n), 1)
	} else {
		w.wide(first, 2, uint64(n))
	}
}

func (w writer) list(l []api.Value) {
	w.items(smallList, firstList16, len(l))
	for _, v := range l {
		w.value(v)
	}
}

func (w writer) record(v api.Value) {
	w.items(smallRecord, firstRecord16, len(v.Names))
	for i, name := range v.Names {
		if i == 0 && strings.HasPrefix(name, dollar) {
			name = dollar + name
		}
		w.text(name)
		w.value(v.List[i])
	}
}

func (w writer) tag(name string, v api.Value) {
	w.items(smallRecord, firstRecord16, 1)
	w.text(tagName)
	w.items(smallList, firstList16, 2)
	w.text(name)
	w.value(v)
}
