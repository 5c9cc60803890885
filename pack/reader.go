package pack

import (
	"calamus/api"
	"calamus/teller"
)

// Reader reads a document that comes in parts.
type Reader struct {
	out  *teller.Teller
	head head
	row  row
	wait wait
	open []part // lists, records and tags, the innermost one last
}

// New is P9.3.
func New() *Reader {
	return &Reader{out: teller.New(api.ErrPack)}
}

// Feed is P9.3.
func (r *Reader) Feed(b []byte) ([]api.Event, api.Errno) {
	if r == nil {
		return nil, api.ErrNil
	}
	l, e := r.out.Feed(b, r.take)
	if e != api.OK {
		*r = Reader{out: r.out} // no more is asked of it
	}
	return l, e
}

// End is P9.3.
func (r *Reader) End() ([]api.Event, api.Errno) {
	if r == nil {
		return nil, api.ErrNil
	}
	l, e := r.out.End(r.finish)
	*r = Reader{out: r.out}
	return l, e
}

// finish goes on by the end of all bytes.
func (r *Reader) finish() {
	if r.wait != forNothing {
		panic(api.ErrPack)
	}
}

// take goes on by the next byte.
func (r *Reader) take(c byte) {
	switch {
	case r.wait == forNothing:
		panic(api.ErrPack)
	case r.row.left > 0:
		r.takeInRow(c)
	case r.head.left > 0:
		r.takeInHead(c)
	default:
		r.takeFirst(c)
	}
}
