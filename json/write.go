package json

import (
	"strings"

	"calamus/api"
	"calamus/fbits"
	"calamus/hex"
	"calamus/num"
	"calamus/quote"
	"calamus/scribe"
)

// writer lays a document out.
type writer struct {
	*scribe.Scribe
}

// value writes v, which was checked.
func (w writer) value(v api.Value) {
	switch v.Kind {
	case api.KindNull:
		w.Put("null")
	case api.KindBool:
		w.flag(v.Flag)
	case api.KindNum:
		s, _ := num.Print(v.Num) // it is a number
		w.Put(s)
	case api.KindFloat:
		w.named(floatName, fbits.Hex(v.Bits))
	case api.KindText:
		w.text(v.Text)
	case api.KindBytes:
		w.named(bytesName, hex.Pairs(v.Text))
	case api.KindList:
		w.list(v.List)
	case api.KindRecord:
		w.record(v)
	case api.KindTag:
		w.tag(v.Text, v.List[0])
	}
}

func (w writer) flag(b bool) {
	if b {
		w.Put("true")
	} else {
		w.Put("false")
	}
}

// named writes an object of one name and a text.
func (w writer) named(name, s string) {
	w.Put("{")
	w.text(name)
	w.Put(":")
	w.text(s)
	w.Put("}")
}

func (w writer) list(l []api.Value) {
	w.Put("[")
	for i, v := range l {
		w.commaBehind(i)
		w.value(v)
	}
	w.Put("]")
}

func (w writer) record(v api.Value) {
	w.Put("{")
	for i, name := range v.Names {
		w.commaBehind(i)
		if i == 0 && strings.HasPrefix(name, dollar) {
			name = dollar + name
		}
		w.text(name)
		w.Put(":")
		w.value(v.List[i])
	}
	w.Put("}")
}

// commaBehind parts the next element from the n ahead of it.
func (w writer) commaBehind(n int) {
	if n > 0 {
		w.Put(",")
	}
}

func (w writer) tag(name string, v api.Value) {
	w.Put("{")
	w.text(tagName)
	w.Put(":[")
	w.text(name)
	w.Put(",")
	w.value(v)
	w.Put("]}")
}

// text writes a text in quotes.
func (w writer) text(s string) {
	w.Put(quote.Text(s))
}
