package xml

import (
	"strconv"
	"strings"

	"calamus/api"
	"calamus/utf"
)

// floatDigits is how many digits a float has.
const floatDigits = 16

// longestRef is how many bytes a reference has at the most: those of a number with six digits.
const longestRef = len(refNumber) + 6 + len(refEnd)

// row are the characters or digits between two marks, as far as they have come.
type row struct {
	kind api.EventKind // EvNum, EvFloat, EvText, EvBytes, EvName or EvTag; 0, if none may stand here
	held []byte
	ref  []byte // a reference, as far as it has come
}

// take goes on by the next byte, which is within no reference.
func (w *row) take(c byte) {
	switch {
	case c < ' ', w.kind == api.EvFloat && len(w.held) == floatDigits:
		panic(api.ErrXml)
	case c == '&' && !w.areDigits():
		w.ref = append(w.ref, c)
	default: // what digits tell is asked when all have come
		w.hold(string([]byte{c}))
	}
}

// areDigits tells whether each byte stands for itself alone, and none for a character.
func (w *row) areDigits() bool {
	return w.kind == api.EvNum || w.kind == api.EvFloat || w.kind == api.EvBytes
}

// takeInRef goes on by the next byte, which is within a reference.
func (w *row) takeInRef(c byte) {
	w.ref = append(w.ref, c)
	switch {
	case c == ';':
		s := characterOf(string(w.ref))
		w.ref = nil
		w.hold(s)
	case len(w.ref) == longestRef:
		panic(api.ErrXml)
	}
}

// characterOf is what a reference stands for.
func characterOf(ref string) string {
	switch ref {
	case refLess:
		return "<"
	case refAnd:
		return "&"
	case refQuote:
		return `"`
	case refMore:
		return ">"
	}
	digits, ok := strings.CutPrefix(ref, refNumber)
	if !ok {
		panic(api.ErrXml)
	}
	n, err := strconv.ParseUint(strings.TrimSuffix(digits, refEnd), 16, 32)
	if err != nil {
		panic(api.ErrXml)
	}
	s, e := utf.Encode(int(n))
	if e != api.OK {
		panic(api.ErrXml)
	}
	return s
}

// hold keeps more bytes. Where they are too many the document is long enough to be refused by its limits, whatever comes.
func (w *row) hold(s string) {
	if len(w.held)+len(s) > mostOf(w.kind) {
		panic(api.ErrLimit)
	}
	w.held = append(w.held, s...)
}

// mostOf tells how many bytes a row may have.
func mostOf(k api.EventKind) int {
	switch k {
	case api.EvNum:
		return api.MaxNumLen
	case api.EvFloat:
		return floatDigits
	case api.EvText:
		return api.MaxText
	case api.EvBytes:
		return 2 * api.MaxText // digits
	}
	return api.MaxName
}
