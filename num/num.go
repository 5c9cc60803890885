// Package num is layer 1, decimal numbers that are exact: see shared/doc/01-num.md.
package num

import (
	"bytes"
	"cmp"

	"calamus/api"
)

// Check is P1.1.
func Check(n api.Num) api.Errno {
	if isZero(n) || isOther(n) {
		return api.OK
	}
	return api.ErrNumForm
}

// IsInt is P1.6.
func IsInt(n api.Num) bool {
	return Check(n) == api.OK && n.Exp >= 0
}

// Cmp is P1.4.
func Cmp(a, b api.Num) (int, api.Errno) {
	if Check(a) != api.OK || Check(b) != api.OK {
		return 0, api.ErrNumForm
	}
	switch {
	case a == b: // each number stands in one way
		return 0, api.OK
	case a.Neg && b.Neg:
		return compareSizes(b, a), api.OK
	case a.Neg:
		return -1, api.OK
	case b.Neg:
		return 1, api.OK
	}
	return compareSizes(a, b), api.OK
}

func isZero(n api.Num) bool {
	return n == api.Num{Digits: "0"}
}

// isOther tells whether n is a number that is not 0.
func isOther(n api.Num) bool {
	k := len(n.Digits)
	if k < 1 || k > api.MaxDigits || !expFits(n.Exp) {
		return false
	}
	return areDigits(n.Digits) && n.Digits[0] != '0' && n.Digits[k-1] != '0'
}

func expFits(exp int) bool {
	return exp >= -api.MaxExp && exp <= api.MaxExp
}

func areDigits(s string) bool {
	return countDigits(s) == len(s)
}

// countDigits tells how many digits s begins with.
func countDigits(s string) int {
	k := 0
	for k < len(s) && s[k] >= '0' && s[k] <= '9' {
		k++
	}
	return k
}

// compareSizes is Cmp of numbers whose signs do not count.
func compareSizes(a, b api.Num) int {
	if c := cmp.Compare(top(a), top(b)); c != 0 {
		return c
	}
	// The first digits stand at the same place, and no last one is a nought: the order is that of the texts.
	return cmp.Compare(a.Digits, b.Digits)
}

// top tells the power of ten that is just above n's size.
func top(n api.Num) int {
	if isZero(n) {
		return -api.MaxExp // below that of any other number
	}
	return n.Exp + len(n.Digits)
}

// form makes the number whose digits (0 to 9, the highest first, with noughts at both ends) are d, times ten to the power of exp.
func form(neg bool, d []byte, exp int) (api.Num, api.Errno) {
	d = bytes.TrimLeft(d, "\x00")
	if len(d) == 0 {
		return api.Num{Digits: "0"}, api.OK // whatever neg and exp are
	}
	for d[len(d)-1] == 0 {
		d = d[:len(d)-1]
		exp++
	}
	if len(d) > api.MaxDigits || !expFits(exp) {
		return api.Num{}, api.ErrLimit
	}
	var text [api.MaxDigits]byte
	for i, v := range d {
		text[i] = '0' + v
	}
	return api.Num{Neg: neg, Digits: string(text[:len(d)]), Exp: exp}, api.OK
}
