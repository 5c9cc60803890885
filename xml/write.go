package xml

import (
	"strconv"

	"calamus/api"
	"calamus/fbits"
	"calamus/hex"
	"calamus/num"
	"calamus/scribe"
)

// writer lays a document out.
type writer struct {
	*scribe.Scribe
}

// value writes v, which was checked.
func (w writer) value(v api.Value) {
	switch v.Kind {
	case api.KindNull:
		w.Put(markNull)
	case api.KindBool:
		w.flag(v.Flag)
	case api.KindNum:
		s, _ := num.Print(v.Num) // it is a number
		w.digits(markNum, s, markNumEnd)
	case api.KindFloat:
		w.digits(markFloat, fbits.Hex(v.Bits), markFloatEnd)
	case api.KindText:
		w.characters(markText, v.Text, markTextEnd)
	case api.KindBytes:
		w.digits(markBytes, hex.Pairs(v.Text), markBytesEnd)
	case api.KindList:
		w.list(v.List)
	case api.KindRecord:
		w.record(v)
	case api.KindTag:
		w.characters(markTag, v.Text, markNameEnd)
		w.value(v.List[0])
		w.Put(markTagEnd)
	}
}

func (w writer) flag(b bool) {
	if b {
		w.Put(markTrue)
	} else {
		w.Put(markFalse)
	}
}

// digits writes what stands for itself, between two marks.
func (w writer) digits(begin, s, end string) {
	w.Put(begin)
	w.Put(s)
	w.Put(end)
}

// characters writes a text or a name between two marks. It may go byte by byte: those that are told otherwise are characters of one byte.
func (w writer) characters(begin, s, end string) {
	w.Put(begin)
	for i := range len(s) {
		w.character(s[i : i+1])
	}
	w.Put(end)
}

// character writes a character, or a byte of a longer one.
func (w writer) character(c string) {
	switch {
	case c == "<":
		w.Put(refLess)
	case c == "&":
		w.Put(refAnd)
	case c == `"`:
		w.Put(refQuote)
	case c == ">":
		w.Put(refMore)
	case c < " ":
		w.Put(refNumber + strconv.FormatInt(int64(c[0]), 16) + refEnd)
	default:
		w.Put(c)
	}
}

func (w writer) list(l []api.Value) {
	w.Put(markList)
	for _, v := range l {
		w.value(v)
	}
	w.Put(markListEnd)
}

func (w writer) record(v api.Value) {
	w.Put(markRecord)
	for i, name := range v.Names {
		w.characters(markField, name, markNameEnd)
		w.value(v.List[i])
		w.Put(markFieldEnd)
	}
	w.Put(markRecordEnd)
}
