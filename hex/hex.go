// Package hex is what the formats that are texts share: bytes as hexadecimal digits, two for each, small letters alone.
package hex

import "strings"

const digits = "0123456789abcdef"

// Pairs tells each byte of s by two digits.
func Pairs(s string) string {
	b := make([]byte, 0, 2*len(s))
	for i := range len(s) {
		b = append(b, digits[s[i]>>4], digits[s[i]&15])
	}
	return string(b)
}

// Bytes are those that s tells by two digits each; false, if s is not just such digits.
func Bytes(s string) (string, bool) {
	if len(s)%2 != 0 {
		return "", false
	}
	b := make([]byte, len(s)/2)
	for i := range b {
		high, ok := Digit(s[2*i])
		low, also := Digit(s[2*i+1])
		if !ok || !also {
			return "", false
		}
		b[i] = byte(high<<4 | low)
	}
	return string(b), true
}

// Digit is the number that a digit says; false, if c is none.
func Digit(c byte) (int, bool) {
	d := strings.IndexByte(digits, c)
	return max(d, 0), d >= 0
}
