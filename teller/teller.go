// Package teller is what the readers of documents share: bytes are gone through one by one, so that parts make no difference, and events are told as they come, no further than the limits of values go.
//
// What is wrong deep inside a reader gives up by a panic with an api.Errno, which is recovered here.
package teller

import (
	"calamus/api"
	"calamus/event"
	"calamus/num"
	"calamus/tally"
)

// Of at most fewBytes bytes it must be known whether they are a document at all, ahead of telling that a limit is passed (P7.2, P8.2, P9.2, P10.2).
const fewBytes = 16

// Teller is what was told of one document.
type Teller struct {
	wrong   api.Errno // what bytes are refused with that are no document
	ended   api.Errno // what each further call answers, if it is not OK
	total   int       // bytes that came
	passed  bool      // a limit: nothing is told any more
	checker *event.Checker
	tally   *tally.Tally
	told    []api.Event // by the call that is going on
}

// New makes a teller of no events; what is no document is refused with wrong.
func New(wrong api.Errno) *Teller {
	return &Teller{wrong: wrong, checker: event.New(), tally: tally.New()}
}

// Feed has take go on by each byte, and answers the events that it tells. From an error on, each further call answers that error.
func (t *Teller) Feed(b []byte, take func(c byte)) ([]api.Event, api.Errno) {
	return t.attempt(func() {
		for _, c := range b {
			t.count()
			take(c)
		}
	})
}

// End has finish go on by the end of all bytes, and answers the events that it tells. Each further call answers an error.
func (t *Teller) End(finish func()) ([]api.Event, api.Errno) {
	l, e := t.attempt(func() {
		finish()
		if t.passed {
			panic(api.ErrLimit)
		}
	})
	if e == api.OK {
		*t = Teller{ended: t.wrong}
	}
	return l, e
}

// attempt answers the events that do tells. If it gives up, nothing is told from then on but why.
func (t *Teller) attempt(do func()) (l []api.Event, e api.Errno) {
	if t == nil {
		return nil, api.ErrNil
	}
	if t.ended != api.OK {
		return nil, t.ended
	}
	defer func() {
		if gave, ok := recover().(api.Errno); ok {
			*t = Teller{ended: gave}
			l, e = nil, gave
		}
	}()
	do()
	l, t.told = t.told, nil
	return l, api.OK
}

// count goes on by one more byte, whatever it is.
func (t *Teller) count() {
	t.total++
	if t.passed || t.total > api.MaxBytes {
		t.Pass()
	}
}

// Pass notes that a limit is passed, and gives up if that can be told already. To be called by take and finish alone.
func (t *Teller) Pass() {
	if t.total > fewBytes {
		panic(api.ErrLimit)
	}
	t.passed = true
}

// Tell tells an event, unless no value goes on so, or a limit is passed. To be called by take and finish alone.
func (t *Teller) Tell(e api.Event) {
	if t.checker.Feed(e) != api.OK { // a text is none, or a name stands there twice
		panic(t.wrong)
	}
	if t.tally.Take(e) != api.OK {
		t.Pass()
	}
	if !t.passed {
		t.told = append(t.told, e)
	}
}

// TellNumber tells the number that a text says, if num.Parse takes it. To be called by take and finish alone.
func (t *Teller) TellNumber(s string) {
	n, e := num.Parse(s)
	switch e {
	case api.OK:
		t.Tell(api.Event{Kind: api.EvNum, Num: n})
	case api.ErrLimit:
		t.Pass()
		t.Tell(api.Event{Kind: api.EvNull}) // it stands for the number; nothing is told any more
	default:
		panic(t.wrong)
	}
}

// Reader reads a document that comes in parts, as those of the formats do.
type Reader interface {
	Feed(b []byte) ([]api.Event, api.Errno)
	End() ([]api.Event, api.Errno)
}

// Read has a new reader read all bytes at once.
func Read(r Reader, b []byte) (api.Value, api.Errno) {
	l, e := r.Feed(b)
	if e != api.OK {
		return api.Value{}, e
	}
	last, e := r.End()
	if e != api.OK {
		return api.Value{}, e
	}
	return event.Build(append(l, last...))
}
