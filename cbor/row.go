package cbor

import (
	"calamus/api"
	"calamus/utf"
)

// row is a text, or bytes, as far as they have come.
type row struct {
	major byte
	parts bool   // it comes in pieces, up to the byte firstBreak
	left  int    // bytes of the piece that have to come
	from  int    // where the piece begins in held
	held  []byte // what is told as a text; the bytes of a big number are not held here
}

// beginRow goes on by a text, or by bytes, that begin.
func (r *Reader) beginRow(major byte) {
	switch r.wait {
	case forItem, forElement:
	case forName, forTagName:
		if major != majorText {
			panic(api.ErrCbor)
		}
	case forBig:
		if major != majorBytes {
			panic(api.ErrCbor)
		}
	default:
		panic(api.ErrCbor)
	}
	r.row = row{major: major}
}

// beginPiece goes on by the head of a piece; what does not come in parts is one.
func (r *Reader) beginPiece(major byte, n uint64) {
	if major != r.row.major {
		panic(api.ErrCbor)
	}
	if r.wait != forBig && n > uint64(api.MaxText-len(r.row.held)) {
		r.out.Pass()
	}
	r.row.left = int(min(n, api.MaxBytes+1)) // so many do not come: one limit or the other is passed ahead of that
	r.row.from = len(r.row.held)
	if r.row.left == 0 {
		r.endPiece()
	}
}

// takeInRow goes on by a byte of a piece.
func (r *Reader) takeInRow(c byte) {
	if r.wait != forBig {
		r.row.held = append(r.row.held, c)
	} else if !r.number.natural.put(c) {
		r.out.Pass()
	}
	r.row.left--
	if r.row.left == 0 {
		r.endPiece()
	}
}

func (r *Reader) endPiece() {
	if r.row.major == majorText && !utf.Valid(string(r.row.held[r.row.from:])) {
		panic(api.ErrCbor)
	}
	if !r.row.parts {
		r.endRow()
	}
}

// endRow goes on by a whole text, or by whole bytes, whatever they are there.
func (r *Reader) endRow() {
	s, major := string(r.row.held), r.row.major
	r.row = row{}
	switch {
	case r.wait == forBig:
		r.takeNumber()
	case r.wait == forName:
		r.out.Tell(api.Event{Kind: api.EvName, Text: s})
		r.wait = forItem
	case r.wait == forTagName:
		r.beginTag(s)
	case major == majorText:
		r.scalar(api.Event{Kind: api.EvText, Text: s})
	default:
		r.scalar(api.Event{Kind: api.EvBytes, Text: s})
	}
}
