package run

import "calamus/api"

// recorder makes a record, each of its elements by a mapping of its own. All of them take what comes at once; what an element makes is told when it is its turn, and held till then.
type recorder struct {
	maker
	elements []*element
	turn     int  // which one's it is
	held     *int // of the whole machine
}

// element is one of a record's.
type element struct {
	record *recorder
	name   string
	do     feed   // what is done with what comes
	made   course // of what that makes
	begun  bool   // that has
	wait   []api.Event
}

func (r *recorder) take(e api.Event) {
	if r.level(e) == 0 && begins(e) {
		r.begin(api.Event{Kind: api.EvRecord})
		r.turn = -1
		for _, x := range r.elements {
			x.begun = false
		}
		r.pass()
	}
	for _, x := range r.elements {
		x.do(e)
	}
}

// pass hands the turn on to the next element, and further, while there is one that is whole.
func (r *recorder) pass() {
	for r.turn++; r.turn < len(r.elements); r.turn++ {
		x := r.elements[r.turn]
		r.out(api.Event{Kind: api.EvName, Text: x.name})
		x.release()
		if !x.isWhole() {
			return
		}
	}
	r.end()
}

// add is what is done with what is made of the element.
func (x *element) add(e api.Event) {
	r := x.record
	r.weigh(e, 1+x.made.level(e)) // also ahead of its turn: no more is held than may be told
	x.begun = true
	if r.elements[r.turn] != x {
		x.wait = append(x.wait, e)
		*r.held++
		return
	}
	r.out(e)
	if x.isWhole() {
		r.pass()
	}
}

// isWhole tells whether all that is made has been made.
func (x *element) isWhole() bool { return x.begun && x.made.isOver() }

// release tells what was held.
func (x *element) release() {
	*x.record.held -= len(x.wait)
	for _, e := range x.wait {
		x.record.out(e)
	}
	x.wait = nil
}
