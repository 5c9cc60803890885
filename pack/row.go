package pack

import "calamus/api"

// row is a text, bytes, or a number's text, as far as they have come.
type row struct {
	kind api.EventKind // EvText, EvBytes or EvNum
	left int           // bytes that have to come
	held []byte
}

// beginRow goes on by the head of a row of n bytes.
func (r *Reader) beginRow(kind api.EventKind, n uint64) {
	if kind != api.EvText { // that may be a name, too
		r.wantItem()
	}
	if n > r.mostOf(kind) {
		r.out.Pass()
	}
	r.row = row{kind: kind, left: int(min(n, api.MaxBytes+1))} // so many do not come: a limit is passed ahead of that
	if r.row.left == 0 {
		r.endRow()
	}
}

// beginExtension goes on by the head of an extension of n bytes.
func (r *Reader) beginExtension(kind byte, n uint64) {
	if kind != extNumber {
		panic(api.ErrPack)
	}
	r.beginRow(api.EvNum, n)
}

// mostOf tells how many bytes a row may have here.
func (r *Reader) mostOf(kind api.EventKind) uint64 {
	switch {
	case kind == api.EvNum:
		return api.MaxNumLen
	case r.wait == forFirstName:
		return api.MaxName + uint64(len(dollar))
	case r.wait == forName, r.wait == forTagName:
		return api.MaxName
	}
	return api.MaxText
}

// takeInRow goes on by a byte of a row.
func (r *Reader) takeInRow(c byte) {
	r.row.held = append(r.row.held, c)
	r.row.left--
	if r.row.left == 0 {
		r.endRow()
	}
}

// endRow goes on by a whole row, whatever it is there.
func (r *Reader) endRow() {
	kind, s := r.row.kind, string(r.row.held)
	r.row = row{}
	switch {
	case r.wait == forFirstName:
		r.firstName(s)
	case r.wait == forName:
		r.name(s)
	case r.wait == forTagName:
		r.beginTag(s)
	case kind == api.EvNum:
		r.takeNumber(s)
	default:
		r.scalar(api.Event{Kind: kind, Text: s})
	}
}
