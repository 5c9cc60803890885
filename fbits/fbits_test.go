package fbits_test

import (
	"fmt"
	"math/big"
	"math/rand"
	"strings"
	"testing"

	"calamus/fbits"
)

// layout is a width of patterns, by the chapter's section 'Words'.
type layout struct {
	exponent, fraction int
	least              int // the power of two of a subnormal one
	less               int // what a normal one's exponent is less
}

var (
	half   = layout{5, 10, -24, 25}
	single = layout{8, 23, -149, 150}
	double = layout{11, 52, -1074, 1075}
)

const (
	classZero      = 1
	classSubnormal = 2
	classNormal    = 3
	classInfinity  = 4
	classNone      = 5
)

// meaning is what a pattern means: the number of a class that has one, the bits of a fraction that is no number's.
type meaning struct {
	minus  bool
	class  int
	number string
	bits   string
}

// meaningOf reads a pattern by the section 'Words', with no float.
func meaningOf(p uint64, l layout) meaning {
	text := fmt.Sprintf("%0*b", 1+l.exponent+l.fraction, p)
	sign, exponent, fraction := text[:1], text[1:1+l.exponent], text[1+l.exponent:]
	e, _ := new(big.Int).SetString(exponent, 2)
	f, _ := new(big.Int).SetString(fraction, 2)
	top := int64(1)<<l.exponent - 1
	m := meaning{minus: sign == "1"}
	switch {
	case e.Int64() == top && f.Sign() == 0:
		m.class = classInfinity
	case e.Int64() == top:
		m.class, m.bits = classNone, fraction+strings.Repeat("0", double.fraction-l.fraction)
	case e.Sign() == 0 && f.Sign() == 0:
		m.class = classZero
	case e.Sign() == 0:
		m.class, m.number = classSubnormal, timesPower(f, l.least)
	default:
		f.SetBit(f, l.fraction, 1)
		m.class, m.number = classNormal, timesPower(f, int(e.Int64())-l.less)
	}
	return m
}

// timesPower is a whole number times a power of two, as a text that no other number has.
func timesPower(whole *big.Int, power int) string {
	r := new(big.Rat).SetInt(whole)
	p := new(big.Rat).SetInt(new(big.Int).Lsh(big.NewInt(1), uint(max(power, -power))))
	if power < 0 {
		return r.Quo(r, p).String()
	}
	return r.Mul(r, p).String()
}

// widened is the meaning that a pattern must have once it has 64 bits.
func widened(m meaning) meaning {
	if m.class == classSubnormal {
		m.class = classNormal
	}
	return m
}

// edges are a layout's patterns at the edges that the chapter names, of both signs.
func edges(l layout) []uint64 {
	top := (uint64(1)<<l.exponent - 1) << l.fraction
	fraction := uint64(1)<<l.fraction - 1
	one := uint64(1) << l.fraction
	sizes := []uint64{
		0, 1, 2, fraction - 1, fraction, // zero, the subnormal ones
		one, one + 1, one + fraction, 2 * one, // the least normal ones
		top/2 - 1, top / 2, top/2 + 1, top/2&^fraction + one, // about one and two
		top - one, top - 2, top - 1, top, // the greatest normal ones, infinity
		top + 1, top + fraction, top + 1<<(l.fraction-1), top + fraction>>1, // no number
	}
	for k := range l.fraction {
		sizes = append(sizes, 1<<k, one|1<<k, top|1<<k, top-one|1<<k)
	}
	for k := range l.exponent {
		sizes = append(sizes, one<<k, top&^(one<<k), top&^(one<<k)|fraction)
	}
	var both []uint64
	for _, s := range sizes {
		both = append(both, s, s|1<<(l.exponent+l.fraction))
	}
	return both
}

// beside are patterns of 64 bits just beside b, and those of which one bit is another.
func beside(b uint64) []uint64 {
	near := []uint64{b - 1, b + 1, b - 1<<29, b + 1<<29, b - 1<<42, b + 1<<42}
	for k := range 64 {
		near = append(near, b^1<<k)
	}
	return near
}

// halves are all patterns of 16 bits by what they are once widened.
func halves() map[uint64]uint16 {
	m := map[uint64]uint16{}
	for h := range 1 << 16 {
		m[fbits.Widen16(uint16(h))] = uint16(h)
	}
	return m
}

// somePatterns are patterns of 64 bits: any, such as came from 32 bits, and such as have few bits.
func somePatterns(seed int64, count int) []uint64 {
	r := rand.New(rand.NewSource(seed))
	var all []uint64
	for range count {
		all = append(all,
			r.Uint64(),
			r.Uint64()&^(1<<29-1),
			r.Uint64()&^(1<<42-1),
			uint64(896+r.Intn(256)-24)<<52|r.Uint64()&(1<<52-1)&^(1<<(20+r.Intn(33))-1)|uint64(r.Intn(2))<<63,
			uint64(r.Intn(2))<<63|uint64(0x7ff)<<52|uint64(1)<<r.Intn(52)|uint64(1)<<r.Intn(52),
			fbits.Widen32(r.Uint32()),
			fbits.Widen16(uint16(r.Uint32())),
		)
	}
	return all
}

func TestExamples(t *testing.T) {
	same := func(call string, got, want any) {
		t.Helper()
		if got != want {
			t.Errorf("%s = %v, want %v", call, got, want)
		}
	}
	same("Widen16(3c00)", fbits.Widen16(0x3c00), uint64(0x3ff0000000000000))
	same("Widen16(0001)", fbits.Widen16(0x0001), uint64(0x3e70000000000000))
	same("Widen16(7e01)", fbits.Widen16(0x7e01), uint64(0x7ff8040000000000))
	same("Widen32(7f800001)", fbits.Widen32(0x7f800001), uint64(0x7ff0000020000000))
	narrow := func(b uint64) string {
		n, p := fbits.Narrow(b)
		return fmt.Sprintf("%d and %x", n, p)
	}
	same("Narrow(one)", narrow(0x3ff0000000000000), "16 and 3c00")
	same("Narrow(7ff0000000000001)", narrow(0x7ff0000000000001), "64 and 7ff0000000000001")
	same("Narrow(minus zero)", narrow(0x8000000000000000), "16 and 8000")
	same("Narrow(3ff0000020000000)", narrow(0x3ff0000020000000), "32 and 3f800001")
	same("Class(0)", fbits.Class(0), 1)
	same("Class(1)", fbits.Class(1), 2)
	same("Class(7ff0000000000000)", fbits.Class(0x7ff0000000000000), 4)
	same("Class(fff0000000000001)", fbits.Class(0xfff0000000000001), 5)
	same("Hex(1f)", fbits.Hex(0x1f), "000000000000001f")
	_, e := fbits.Unhex("000000000000001F")
	same("Unhex(1F)", int(e), 20)
}
