// Package quote is what JSON and the texts of mappings share: texts in quotes, as they are written.
package quote

import "calamus/hex"

// Text writes s in quotes: characters as themselves, but `"` and `\` with `\` ahead, and those below 32 as `\u00` and two digits. It may go byte by byte: those that are told otherwise are characters of one byte.
func Text(s string) string {
	b := make([]byte, 0, len(s)+len(`""`))
	b = append(b, '"')
	for i := range len(s) {
		switch c := s[i]; {
		case c == '"' || c == '\\':
			b = append(b, '\\', c)
		case c < ' ':
			b = append(b, `\u00`+hex.Pairs(s[i:i+1])...)
		default:
			b = append(b, c)
		}
	}
	return string(append(b, '"'))
}
