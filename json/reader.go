package json

import (
	"strings"

	"calamus/api"
	"calamus/teller"
)

// Between words (null, true, false and numbers) stand blanks, and the bytes that mean something by themselves.
const notInWords = " \t\n\r[]{},:\""

// Reader reads a document that comes in parts.
type Reader struct {
	out    *teller.Teller
	word   []byte // as far as it has come
	quoted quoted
	wait   wait
	behind wait            // what to wait for behind a `:`
	open   []api.EventKind // lists, records and tags, the innermost one last
}

// New is P7.3.
func New() *Reader {
	return &Reader{out: teller.New(api.ErrJson)}
}

// Feed is P7.3.
func (r *Reader) Feed(b []byte) ([]api.Event, api.Errno) {
	if r == nil {
		return nil, api.ErrNil
	}
	l, e := r.out.Feed(b, r.take)
	if e != api.OK {
		*r = Reader{out: r.out} // no more is asked of it
	}
	return l, e
}

// End is P7.3.
func (r *Reader) End() ([]api.Event, api.Errno) {
	if r == nil {
		return nil, api.ErrNil
	}
	l, e := r.out.End(r.finish)
	*r = Reader{out: r.out}
	return l, e
}

// finish goes on by the end of all bytes.
func (r *Reader) finish() {
	r.endWord()
	if r.wait != forNothing || r.quoted.place != outside {
		panic(api.ErrJson)
	}
}

// take goes on by the next byte.
func (r *Reader) take(c byte) {
	switch {
	case r.quoted.place != outside:
		if r.quoted.take(c) {
			s := r.quoted.text()
			r.quoted = quoted{}
			r.takeText(s)
		}
	case strings.IndexByte(notInWords, c) < 0:
		r.holdWord(c)
	default:
		r.endWord()
		r.takeMark(c)
	}
}

func (r *Reader) holdWord(c byte) {
	if len(r.word) == api.MaxNumLen { // a number, or none
		panic(api.ErrLimit)
	}
	r.word = append(r.word, c)
}

// endWord is done wherever a word may end; there may be none.
func (r *Reader) endWord() {
	if len(r.word) == 0 {
		return
	}
	s := string(r.word)
	r.word = nil
	r.takeWord(s)
}
