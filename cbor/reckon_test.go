package cbor_test

import (
	"math/big"
	"strings"
	"unicode/utf8"

	"calamus/api"
	"calamus/fbits"
	"calamus/value"
)

// reckoned is what bytes are, reckoned apart from the package: all of them at once, by the chapter's table, numbers by the library's.
type reckoned struct {
	document bool
	limit    bool      // it passes one
	value    api.Value // if it is a document, and passes none
}

// noDocument is what the reckoner gives up by.
type noDocument struct{}

func reckon(b []byte) (x reckoned) {
	defer func() {
		if gave := recover(); gave != nil {
			if _, ok := gave.(noDocument); !ok {
				panic(gave)
			}
			x = reckoned{}
		}
	}()
	k := reckoner{rest: b}
	v := k.item()
	k.want(len(k.rest) == 0)
	if k.over || len(b) > api.MaxBytes || value.Check(v) != api.OK {
		return reckoned{document: true, limit: true}
	}
	return reckoned{document: true, value: v}
}

type reckoner struct {
	rest []byte
	over bool // a number is none
}

func (k *reckoner) want(ok bool) {
	if !ok {
		panic(noDocument{})
	}
}

// next are the next n bytes.
func (k *reckoner) next(n uint64) []byte {
	k.want(n <= uint64(len(k.rest)))
	b := k.rest[:n]
	k.rest = k.rest[n:]
	return b
}

func (k *reckoner) peek() byte {
	k.want(len(k.rest) > 0)
	return k.rest[0]
}

// head is the next one: its major type, its number, whether it has none since parts follow.
func (k *reckoner) head() (int, uint64, bool) {
	c := k.next(1)[0]
	major, low := int(c/0x20), c%0x20
	switch low {
	case 0x18, 0x19, 0x1a, 0x1b:
		n := new(big.Int).SetBytes(k.next(1 << (low - 0x18)))
		return major, n.Uint64(), false
	case 0x1f:
		return major, 0, true
	}
	k.want(low < 0x18)
	return major, uint64(low), false
}

// headOf is the next one, which must be of this major type.
func (k *reckoner) headOf(want int) (uint64, bool) {
	major, n, parts := k.head()
	k.want(major == want && !(parts && major < 2))
	return n, parts
}

// each calls do for so many elements, or up to ff.
func (k *reckoner) each(n uint64, parts bool, do func()) {
	for ; parts || n > 0; n-- {
		if parts && k.peek() == 0xff {
			k.next(1)
			return
		}
		do()
	}
}

// row is a text (major type 3), or bytes (2).
func (k *reckoner) row(major int) string {
	var s []byte
	piece := func(n uint64) {
		p := k.next(n)
		k.want(major == 2 || utf8.Valid(p))
		s = append(s, p...)
	}
	n, parts := k.headOf(major)
	if !parts {
		piece(n)
		return string(s)
	}
	k.each(0, true, func() {
		n, within := k.headOf(major)
		k.want(!within)
		piece(n)
	})
	return string(s)
}

// pair takes the list of two items.
func (k *reckoner) pair(first, second func()) {
	n, parts := k.headOf(4)
	k.want(parts || n == 2)
	first()
	second()
	if parts {
		k.want(k.next(1)[0] == 0xff)
	}
}

func (k *reckoner) item() api.Value {
	switch c := k.peek(); c {
	case 0xf4, 0xf5:
		k.next(1)
		return flag(c == 0xf5)
	case 0xf6:
		k.next(1)
		return null
	case 0xf9, 0xfa, 0xfb:
		return k.float()
	default:
		k.want(c < 0xe0)
		switch c / 0x20 {
		case 2:
			return raw(k.row(2))
		case 3:
			return text(k.row(3))
		case 4:
			v := list()
			n, parts := k.headOf(4)
			k.each(n, parts, func() { v.List = append(v.List, k.item()) })
			return v
		case 5:
			return k.record()
		case 6:
			return k.marked()
		}
		return k.number(k.whole(), new(big.Int))
	}
}

func (k *reckoner) float() api.Value {
	width := uint64(1) << (k.next(1)[0] - 0xf8)
	n := new(big.Int).SetBytes(k.next(width)).Uint64()
	switch width {
	case 2:
		return float(fbits.Widen16(uint16(n)))
	case 4:
		return float(fbits.Widen32(uint32(n)))
	}
	return float(n)
}

func (k *reckoner) record() api.Value {
	v := record("")
	seen := map[string]bool{}
	n, parts := k.headOf(5)
	k.each(n, parts, func() {
		name := k.row(3)
		k.want(!seen[name])
		seen[name] = true
		v.Names = append(v.Names, name)
		v.List = append(v.List, k.item())
	})
	return v
}

// whole is a whole number's item.
func (k *reckoner) whole() *big.Int {
	major, n, parts := k.head()
	k.want(major < 2 && !parts)
	x := new(big.Int).SetUint64(n)
	if major == 1 {
		x.Not(x)
	}
	return x
}

// big is a big number behind its mark.
func (k *reckoner) big(below bool) *big.Int {
	x := new(big.Int).SetBytes([]byte(k.row(2)))
	k.number(x, new(big.Int))
	if below {
		x.Not(x)
	}
	return x
}

// marked is a big number, a decimal or a tag.
func (k *reckoner) marked() api.Value {
	n, parts := k.headOf(6)
	k.want(!parts)
	var a, b *big.Int
	switch n {
	case 2, 3:
		return k.number(k.big(n == 3), new(big.Int))
	case 4:
		k.pair(func() { a = k.whole() }, func() { b = k.factor() })
		return k.number(b, a)
	case 0x1b:
		var v api.Value
		k.pair(func() { v = tag(k.row(3), null) }, func() { v.List[0] = k.item() })
		return v
	}
	k.want(false)
	return null
}

func (k *reckoner) factor() *big.Int {
	if k.peek()/0x20 != 6 {
		return k.whole()
	}
	n, parts := k.headOf(6)
	k.want(!parts && (n == 2 || n == 3))
	m := k.big(n == 3)
	k.number(m, new(big.Int))
	return m
}

// number is m times ten to the power of x; null, if that is none.
func (k *reckoner) number(m, x *big.Int) api.Value {
	if m.Sign() == 0 {
		return whole("0")
	}
	all := new(big.Int).Abs(m).String()
	digits := strings.TrimRight(all, "0")
	exp := new(big.Int).Add(x, big.NewInt(int64(len(all)-len(digits))))
	if len(digits) > 40 || exp.CmpAbs(big.NewInt(400)) > 0 {
		k.over = true
		return null
	}
	return number(api.Num{Neg: m.Sign() < 0, Digits: digits, Exp: int(exp.Int64())})
}
