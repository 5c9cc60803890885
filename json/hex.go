package json

import "strings"

const hexDigits = "0123456789abcdef"

// hex tells each byte by two digits.
func hex(s string) string {
	b := make([]byte, 0, 2*len(s))
	for i := range len(s) {
		b = append(b, hexDigits[s[i]>>4], hexDigits[s[i]&15])
	}
	return string(b)
}

// unhex takes two digits for each byte, and tells whether s is just such ones.
func unhex(s string) (string, bool) {
	if len(s)%2 != 0 {
		return "", false
	}
	b := make([]byte, len(s)/2)
	for i := range b {
		high, low := strings.IndexByte(hexDigits, s[2*i]), strings.IndexByte(hexDigits, s[2*i+1])
		if high < 0 || low < 0 {
			return "", false
		}
		b[i] = byte(high<<4 | low)
	}
	return string(b), true
}
