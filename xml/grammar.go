package xml

import (
	"calamus/api"
	"calamus/fbits"
	"calamus/hex"
)

// takeMark goes on by a whole mark.
func (r *Reader) takeMark(m mark) {
	switch m := m.(type) {
	case scalar:
		r.wantElement()
		r.element(api.Event(m))
	case rowBegin:
		r.wantElement()
		r.row.kind = api.EventKind(m)
	case rowEnd:
		r.endRow(api.EventKind(m))
	case partBegin:
		r.wantElement()
		r.begin(api.Event{Kind: api.EventKind(m)})
	case nameBegin:
		r.beginName(api.EventKind(m))
	case nameEnd:
		r.endName()
	case partEnd:
		r.endPart(api.EventKind(m))
	}
}

// wantElement is done where an element begins.
func (r *Reader) wantElement() {
	in := r.inner()
	if r.row.kind != 0 || in == api.EvRecord || in != api.EvList && r.filled {
		panic(api.ErrXml)
	}
}

// element tells a whole element.
func (r *Reader) element(e api.Event) {
	r.out.Tell(e)
	r.filled = true
}

// endRow goes on by the end of an element of characters or digits.
func (r *Reader) endRow(kind api.EventKind) {
	if r.row.kind != kind {
		panic(api.ErrXml)
	}
	s := r.takeRow()
	switch kind {
	case api.EvNum:
		r.out.TellNumber(s)
		r.filled = true
	case api.EvFloat:
		r.float(s)
	case api.EvText:
		r.element(api.Event{Kind: api.EvText, Text: s})
	case api.EvBytes:
		r.bytes(s)
	}
}

// takeRow is what was held; no more may stand here.
func (r *Reader) takeRow() string {
	s := string(r.row.held)
	r.row = row{}
	return s
}

func (r *Reader) float(s string) {
	bits, e := fbits.Unhex(s)
	if e != api.OK {
		panic(api.ErrXml)
	}
	r.element(api.Event{Kind: api.EvFloat, Bits: bits})
}

func (r *Reader) bytes(s string) {
	b, ok := hex.Bytes(s)
	if !ok {
		panic(api.ErrXml)
	}
	r.element(api.Event{Kind: api.EvBytes, Text: b})
}

// beginName goes on by what stands ahead of a field's or a tag's name: a field stands in a record, a tag wherever an element does.
func (r *Reader) beginName(kind api.EventKind) {
	if kind == api.EvTag {
		r.wantElement()
	} else if r.row.kind != 0 || r.inner() != api.EvRecord {
		panic(api.ErrXml)
	}
	r.row.kind = kind
}

// endName goes on by what stands behind a field's or a tag's name.
func (r *Reader) endName() {
	kind := r.row.kind
	if kind != api.EvName && kind != api.EvTag {
		panic(api.ErrXml)
	}
	r.begin(api.Event{Kind: kind, Text: r.takeRow()})
}

// begin tells the event by which a list, a record, a field or a tag begins.
func (r *Reader) begin(e api.Event) {
	r.out.Tell(e)
	r.open = append(r.open, e.Kind)
	r.filled = false
}

// endPart goes on by the end of the innermost list, record, field or tag.
func (r *Reader) endPart(kind api.EventKind) {
	needsOne := kind == api.EvName || kind == api.EvTag
	if r.row.kind != 0 || r.inner() != kind || needsOne && !r.filled {
		panic(api.ErrXml)
	}
	r.open = r.open[:len(r.open)-1]
	if kind != api.EvName { // a field has no end among events
		r.element(api.Event{Kind: api.EvEnd})
	}
}

// inner is the kind of the innermost list, record, field or tag, 0 if none is open.
func (r *Reader) inner() api.EventKind {
	if len(r.open) == 0 {
		return 0
	}
	return r.open[len(r.open)-1]
}
