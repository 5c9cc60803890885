package num

import (
	"bytes"

	"calamus/api"
)

const (
	maxOfBytes  = 183                            // 256 to this power is the first one above all numbers
	maxOfDigits = api.MaxDigits + api.MaxExp + 1 // the digits of what is just below that power
	maxBytes    = 17                             // of a number of MaxDigits digits
)

// Of is P1.6.
func Of(neg bool, b []byte) (api.Num, api.Errno) {
	b = bytes.TrimLeft(b, "\x00")
	if len(b) > maxOfBytes {
		return api.Num{}, api.ErrLimit
	}
	var d [maxOfDigits]byte
	first := len(d) // where the digits begin so far
	for _, v := range b {
		first = scaleUp(d[:], first, int(v))
	}
	return form(neg, d[first:], 0)
}

// scaleUp makes the digits of d from first on 256 times as much, and carry more; it tells where they begin then.
func scaleUp(d []byte, first, carry int) int {
	for i := len(d) - 1; i >= first; i-- {
		carry += int(d[i]) * 256
		d[i] = byte(carry % 10)
		carry /= 10
	}
	for carry > 0 {
		first--
		d[first] = byte(carry % 10)
		carry /= 10
	}
	return first
}

// Bytes is P1.6.
func Bytes(n api.Num) ([]byte, api.Errno) {
	switch {
	case Check(n) != api.OK:
		return nil, api.ErrNumForm
	case n.Exp < 0:
		return nil, api.ErrNumInt
	case len(n.Digits)+n.Exp > api.MaxDigits:
		return nil, api.ErrLimit
	}
	var b [maxBytes]byte
	for i := range len(n.Digits) {
		tenfold(&b, int(n.Digits[i]-'0'))
	}
	for range n.Exp {
		tenfold(&b, 0)
	}
	return bytes.Clone(bytes.TrimLeft(b[:], "\x00")), api.OK
}

// tenfold makes the number whose bytes are b ten times as much, and carry more.
func tenfold(b *[maxBytes]byte, carry int) {
	for i := len(b) - 1; i >= 0; i-- {
		carry += int(b[i]) * 10
		b[i] = byte(carry)
		carry >>= 8
	}
}
