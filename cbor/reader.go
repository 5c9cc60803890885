package cbor

import (
	"calamus/api"
	"calamus/event"
	"calamus/tally"
)

// Of at most fewBytes bytes it must be known whether they are a document at all, ahead of telling that a limit is passed (P8.2).
const fewBytes = 16

// Reader reads a document that comes in parts. It goes byte by byte, so that parts make no difference.
type Reader struct {
	ended   api.Errno // what each further call answers, if it is not OK
	total   int       // bytes that came
	passed  bool      // a limit: nothing is told any more
	head    head
	row     row
	number  number
	wait    wait
	open    []part // lists, records and tags, the innermost one last
	checker *event.Checker
	tally   *tally.Tally
	told    []api.Event // by the call that is going on
}

// New is P8.3.
func New() *Reader {
	return &Reader{checker: event.New(), tally: tally.New()}
}

// Feed is P8.3.
func (r *Reader) Feed(b []byte) ([]api.Event, api.Errno) {
	return r.attempt(func() {
		for _, c := range b {
			r.take(c)
		}
	})
}

// End is P8.3.
func (r *Reader) End() ([]api.Event, api.Errno) {
	l, e := r.attempt(r.finish)
	if e == api.OK {
		*r = Reader{ended: api.ErrCbor}
	}
	return l, e
}

// attempt answers the events that do tells. If it gives up, nothing is told from then on but why.
func (r *Reader) attempt(do func()) (l []api.Event, e api.Errno) {
	if r == nil {
		return nil, api.ErrNil
	}
	if r.ended != api.OK {
		return nil, r.ended
	}
	defer func() {
		if gave, ok := recover().(api.Errno); ok {
			*r = Reader{ended: gave}
			l, e = nil, gave
		}
	}()
	do()
	l, r.told = r.told, nil
	return l, api.OK
}

// finish goes on by the end of all bytes.
func (r *Reader) finish() {
	switch {
	case r.wait != forNothing:
		panic(api.ErrCbor)
	case r.passed:
		panic(api.ErrLimit)
	}
}

// take goes on by the next byte.
func (r *Reader) take(c byte) {
	r.total++
	if r.passed || r.total > api.MaxBytes {
		r.pass()
	}
	switch {
	case r.wait == forNothing:
		panic(api.ErrCbor)
	case r.row.left > 0:
		r.takeInRow(c)
	case r.head.left > 0:
		r.takeInHead(c)
	default:
		r.takeFirst(c)
	}
}

// pass notes that a limit is passed, and gives up if that can be told already.
func (r *Reader) pass() {
	if r.total > fewBytes {
		panic(api.ErrLimit)
	}
	r.passed = true
}

// tell tells an event, unless no value goes on so, or a limit is passed.
func (r *Reader) tell(e api.Event) {
	if r.checker.Feed(e) != api.OK { // a name stands there twice
		panic(api.ErrCbor)
	}
	if r.tally.Take(e) != api.OK {
		r.pass()
	}
	if !r.passed {
		r.told = append(r.told, e)
	}
}
