package num

import "calamus/api"

// maxSpan is how many places two numbers may reach over together. Beyond it one of them has the first place, and the other, which is less than a tenth of it, the last: the sum has at least as many places less one, and that is more than MaxDigits.
const maxSpan = api.MaxDigits + 1

// places are a sum's digits, the highest first: one more than maxSpan, for what is carried.
type places [maxSpan + 1]byte

// Add is P1.5.
func Add(a, b api.Num) (api.Num, api.Errno) {
	if Check(a) != api.OK || Check(b) != api.OK {
		return api.Num{}, api.ErrNumForm
	}
	if compareSizes(a, b) < 0 {
		a, b = b, a // the greater one gives the sign, and nothing is borrowed from above it
	}
	if isZero(b) {
		b.Exp = a.Exp // a nought is the same at any place
	}
	low := min(a.Exp, b.Exp)
	if top(a)-low > maxSpan {
		return api.Num{}, api.ErrLimit
	}
	var p places
	p.merge(a.Digits, a.Exp-low, false)
	p.merge(b.Digits, b.Exp-low, a.Neg != b.Neg)
	return form(a.Neg, p[:], low)
}

// merge adds digits, the last of which stands at places above the lowest; or takes them away, if less.
func (p *places) merge(digits string, at int, less bool) {
	carry := 0
align:
	for i := at; i < len(p); i++ {
		d := carry
		switch k := i - at; {
		case k < len(digits):
			d += int(digits[len(digits)-1-k] - '0')
		case carry == 0:
			break align
		}
		here := len(p) - 1 - i
		p[here], carry = settle(int(p[here]), d, less)
	}
}

// settle adds d to a digit, or takes it away, and tells the digit and what is carried.
func settle(digit, d int, less bool) (byte, int) {
	if less {
		d = -d
	}
	switch v := digit + d; {
	case v < 0:
		return byte(v + 10), 1
	case v > 9:
		return byte(v - 10), 1
	default:
		return byte(v), 0
	}
}
