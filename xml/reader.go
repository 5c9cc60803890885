package xml

import (
	"strings"

	"calamus/api"
	"calamus/teller"
)

// Reader reads a document that comes in parts.
type Reader struct {
	out    *teller.Teller
	mark   []byte // as far as it has come
	row    row
	open   []api.EventKind // lists, records, fields (as EvName) and tags, the innermost one last
	filled bool            // the innermost field or tag, or the document if none is open, has its one element
}

// New is P10.3.
func New() *Reader {
	return &Reader{out: teller.New(api.ErrXml)}
}

// Feed is P10.3.
func (r *Reader) Feed(b []byte) ([]api.Event, api.Errno) {
	if r == nil {
		return nil, api.ErrNil
	}
	l, e := r.out.Feed(b, r.take)
	if e != api.OK {
		*r = Reader{out: r.out} // no more is asked of it
	}
	return l, e
}

// End is P10.3.
func (r *Reader) End() ([]api.Event, api.Errno) {
	if r == nil {
		return nil, api.ErrNil
	}
	l, e := r.out.End(r.finish)
	*r = Reader{out: r.out}
	return l, e
}

// finish goes on by the end of all bytes.
func (r *Reader) finish() {
	if len(r.mark) > 0 || len(r.open) > 0 || !r.filled {
		panic(api.ErrXml)
	}
}

// take goes on by the next byte.
func (r *Reader) take(c byte) {
	switch {
	case len(r.mark) > 0:
		r.takeInMark(c)
	case len(r.row.ref) > 0:
		r.row.takeInRef(c)
	case c == '<', c == '"': // none of the two is a character: a mark begins
		r.mark = append(r.mark, c)
	case r.row.kind != 0:
		r.row.take(c)
	case strings.IndexByte(blanks, c) < 0:
		panic(api.ErrXml)
	}
}

// takeInMark goes on by a further byte of a mark.
func (r *Reader) takeInMark(c byte) {
	r.mark = append(r.mark, c)
	m := markOf(string(r.mark))
	switch {
	case m != nil:
		r.mark = nil
		r.takeMark(m)
	case len(r.mark) == longestMark:
		panic(api.ErrXml)
	}
}
