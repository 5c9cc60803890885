package fbits

import "math"

// widths are how many bits a pattern's exponent and its fraction have; the sign has one more.
type widths [2]int

// The widths of patterns of 16, 32 and 64 bits.
var (
	half   = widths{5, 10}
	single = widths{8, 23}
	double = widths{11, 52}
)

// parts are a pattern's exponent and its fraction.
type parts [2]uint64

// all tells how many bits a whole pattern has.
func (w widths) all() int {
	return 1 + w[0] + w[1]
}

// ones tells the exponent of infinity and of no number.
func (w widths) ones() uint64 {
	return 1<<w[0] - 1
}

// excess tells what the exponent of a normal one has too much, if its fraction is read as a whole number: 25, 150, 1075.
func (w widths) excess() int {
	return 1<<(w[0]-1) - 1 + w[1]
}

// split takes a pattern apart: its sign, and the rest.
func split(p uint64, w widths) (uint64, parts) {
	return p >> (w[0] + w[1]), parts{p >> w[1] & w.ones(), p & (1<<w[1] - 1)}
}

// join is the pattern that split takes apart.
func join(sign uint64, p parts, w widths) uint64 {
	return sign<<(w[0]+w[1]) | p[0]<<w[1] | p[1]
}

// convert makes a pattern of other widths, of the same number or the same bits, if there is one: else it is that of another.
func convert(b uint64, from, to widths) uint64 {
	sign, p := split(b, from)
	if p[0] == from.ones() {
		return join(sign, parts{to.ones(), align(p[1], from, to)}, to)
	}
	// A number takes the way through a float; infinity and no number must not, as a machine changes bits of the latter.
	return join(sign, partsOf(number(p, from), to), to)
}

// align keeps a fraction's bits from the highest on.
func align(fraction uint64, from, to widths) uint64 {
	if to[1] > from[1] {
		return fraction << (to[1] - from[1])
	}
	return fraction >> (from[1] - to[1])
}

// number tells the number of a pattern, less its sign.
func number(p parts, w widths) float64 {
	if w == double {
		return math.Float64frombits(join(0, p, w))
	}
	if p[0] == 0 {
		return math.Ldexp(float64(p[1]), 1-w.excess())
	}
	return math.Ldexp(float64(1<<w[1]|p[1]), int(p[0])-w.excess())
}

// partsOf is the pattern of a number, with what is below its last bit cut off; of zero, if the number is too great.
func partsOf(f float64, w widths) parts {
	if w == double {
		_, p := split(math.Float64bits(f), w)
		return p
	}
	_, power := math.Frexp(f) // f is at least half of 2 to that power, and less than the whole
	exponent := power - 1 - w[1] + w.excess()
	switch {
	case exponent >= int(w.ones()):
		return parts{}
	case exponent < 1 || f == 0:
		return parts{0, uint64(math.Ldexp(f, w.excess()-1))}
	}
	return parts{uint64(exponent), uint64(math.Ldexp(f, w.excess()-exponent)) - 1<<w[1]}
}
