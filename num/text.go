package num

import (
	"strconv"

	"calamus/api"
)

// maxPlain is how many digits Print lays out before it writes a power of ten.
const maxPlain = 21

// farPower is a power of ten that the other bytes of a number's text can't bring back to one that a number has.
const farPower = api.MaxExp + api.MaxNumLen

// parts are the pieces of a number's text.
type parts struct {
	neg         bool
	whole, frac string // digits
	powerNeg    bool
	power       string // digits, or nothing
}

// Parse is P1.2.
func Parse(s string) (api.Num, api.Errno) {
	p, ok := split(s)
	if !ok {
		return api.Num{}, api.ErrNumForm
	}
	if len(s) > api.MaxNumLen {
		return api.Num{}, api.ErrLimit
	}
	var d [api.MaxNumLen]byte
	k := lay(d[:], p.whole)
	k += lay(d[k:], p.frac)
	return form(p.neg, d[:k], powerOf(p)-len(p.frac))
}

// lay puts the digits of s into d, and tells how many they are.
func lay(d []byte, s string) int {
	for i := range len(s) {
		d[i] = s[i] - '0'
	}
	return len(s)
}

// split takes a number's text apart, and tells whether it is one.
func split(s string) (parts, bool) {
	var p parts
	p.neg, s = cutByte(s, '-')
	p.whole, s = cutDigits(s)
	if p.whole == "" || len(p.whole) > 1 && p.whole[0] == '0' {
		return parts{}, false
	}
	if point, rest := cutByte(s, '.'); point {
		p.frac, s = cutDigits(rest)
		if p.frac == "" {
			return parts{}, false
		}
	}
	if s == "" {
		return p, true
	}
	if s[0] != 'e' && s[0] != 'E' {
		return parts{}, false
	}
	return splitPower(p, s[1:])
}

// splitPower adds to p the power of ten that is all of s, and tells whether s is one.
func splitPower(p parts, s string) (parts, bool) {
	plus, s := cutByte(s, '+')
	if !plus {
		p.powerNeg, s = cutByte(s, '-')
	}
	if s == "" || !areDigits(s) {
		return parts{}, false
	}
	p.power = s
	return p, true
}

// cutByte tells whether s begins with c, and what is behind it then.
func cutByte(s string, c byte) (bool, string) {
	if s == "" || s[0] != c {
		return false, s
	}
	return true, s[1:]
}

// cutDigits splits s behind the digits that it begins with.
func cutDigits(s string) (string, string) {
	k := countDigits(s)
	return s[:k], s[k:]
}

// powerOf tells the power of ten that p has written out; one beyond farPower need not be the same, but is beyond it too.
func powerOf(p parts) int {
	power := 0
	for i := 0; i < len(p.power) && power <= farPower; i++ {
		power = power*10 + int(p.power[i]-'0')
	}
	if p.powerNeg {
		return -power
	}
	return power
}

// Print is P1.3.
func Print(n api.Num) (string, api.Errno) {
	if Check(n) != api.OK {
		return "", api.ErrNumForm
	}
	var b []byte
	if n.Neg {
		b = append(b, '-')
	}
	switch k := len(n.Digits); {
	case n.Exp >= 0 && k+n.Exp <= maxPlain:
		b = append(b, n.Digits...)
		b = appendNoughts(b, n.Exp)
	case n.Exp < 0 && -n.Exp <= maxPlain:
		b = appendPointed(b, n.Digits, -n.Exp)
	default:
		b = appendPower(b, n.Digits, n.Exp+k-1)
	}
	return string(b), api.OK
}

func appendNoughts(b []byte, k int) []byte {
	for range k {
		b = append(b, '0')
	}
	return b
}

// appendPointed writes digits with a point ahead of the last behind of them, and at least one digit ahead of it.
func appendPointed(b []byte, digits string, behind int) []byte {
	ahead := len(digits) - behind
	if ahead <= 0 {
		b = append(b, '0', '.')
		b = appendNoughts(b, -ahead)
		return append(b, digits...)
	}
	b = append(b, digits[:ahead]...)
	b = append(b, '.')
	return append(b, digits[ahead:]...)
}

// appendPower writes digits with a point behind the first one, if there are others, and the power of ten.
func appendPower(b []byte, digits string, power int) []byte {
	b = append(b, digits[0])
	if len(digits) > 1 {
		b = append(b, '.')
		b = append(b, digits[1:]...)
	}
	b = append(b, 'e')
	return strconv.AppendInt(b, int64(power), 10)
}
