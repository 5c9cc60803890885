package json

import (
	"strings"

	"calamus/api"
	"calamus/fbits"
	"calamus/num"
)

// writer lays a document out. It gives up where that would be too long, since a value within the limits may have a document many times as long.
type writer struct {
	out []byte
}

func (w *writer) put(s string) {
	if len(s) > api.MaxBytes-len(w.out) {
		panic(api.ErrLimit)
	}
	w.out = append(w.out, s...)
}

// value writes v, which was checked.
func (w *writer) value(v api.Value) {
	switch v.Kind {
	case api.KindNull:
		w.put("null")
	case api.KindBool:
		w.flag(v.Flag)
	case api.KindNum:
		s, _ := num.Print(v.Num) // it is a number
		w.put(s)
	case api.KindFloat:
		w.named(floatName, fbits.Hex(v.Bits))
	case api.KindText:
		w.text(v.Text)
	case api.KindBytes:
		w.named(bytesName, hex(v.Text))
	case api.KindList:
		w.list(v.List)
	case api.KindRecord:
		w.record(v)
	case api.KindTag:
		w.tag(v.Text, v.List[0])
	}
}

func (w *writer) flag(b bool) {
	if b {
		w.put("true")
	} else {
		w.put("false")
	}
}

// named writes an object of one name and a text.
func (w *writer) named(name, s string) {
	w.put("{")
	w.text(name)
	w.put(":")
	w.text(s)
	w.put("}")
}

func (w *writer) list(l []api.Value) {
	w.put("[")
	for i, v := range l {
		w.commaBehind(i)
		w.value(v)
	}
	w.put("]")
}

func (w *writer) record(v api.Value) {
	w.put("{")
	for i, name := range v.Names {
		w.commaBehind(i)
		if i == 0 && strings.HasPrefix(name, dollar) {
			name = dollar + name
		}
		w.text(name)
		w.put(":")
		w.value(v.List[i])
	}
	w.put("}")
}

// commaBehind parts the next element from the n ahead of it.
func (w *writer) commaBehind(n int) {
	if n > 0 {
		w.put(",")
	}
}

func (w *writer) tag(name string, v api.Value) {
	w.put("{")
	w.text(tagName)
	w.put(":[")
	w.text(name)
	w.put(",")
	w.value(v)
	w.put("]}")
}

// text writes a text in quotes. It may go byte by byte: those that are told otherwise are characters of one byte.
func (w *writer) text(s string) {
	w.put(`"`)
	for i := range len(s) {
		c := s[i : i+1]
		switch {
		case c == `"` || c == `\`:
			w.put(`\` + c)
		case c < " ":
			w.put(`\u00` + hex(c))
		default:
			w.put(c)
		}
	}
	w.put(`"`)
}
