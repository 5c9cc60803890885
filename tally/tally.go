// Package tally counts what events tell, and holds it against the limits of values (shared/DOC.md, section 'Words'): a reader that tells events as they come asks it ahead of each.
package tally

import "calamus/api"

// Tally is what was counted of one value's events.
type Tally struct {
	size int    // values that have begun
	open []part // the innermost one last
}

// part is a list, a record or a tag that has begun, and has not ended yet.
type part struct {
	kind  api.EventKind
	items int
}

// New makes a tally of no events.
func New() *Tally {
	return &Tally{}
}

// Take counts an event that event.Checker takes, too: ErrLimit, if no value within the limits begins with it and those ahead of it; then it is not counted.
func (t *Tally) Take(e api.Event) api.Errno {
	if t == nil {
		return api.ErrNil
	}
	if e.Kind == api.EvEnd {
		t.open = t.open[:max(len(t.open)-1, 0)]
		return api.OK
	}
	if len(e.Text) > longest(e.Kind) || !t.hasRoom(e.Kind) {
		return api.ErrLimit
	}
	t.count(e.Kind)
	return api.OK
}

// longest tells how many bytes an event's text may have.
func longest(k api.EventKind) int {
	if k == api.EvName || k == api.EvTag {
		return api.MaxName
	}
	return api.MaxText
}

// hasRoom tells whether such an event, with the values that have to come behind it, stays within the limits.
func (t *Tally) hasRoom(k api.EventKind) bool {
	values := 1 // one that begins by the event, or that a name needs
	if k == api.EvTag {
		values = 2 // the second stands in the first
	}
	if t.size+values > api.MaxSize || len(t.open)+values > api.MaxDepth {
		return false
	}
	return !t.beginsItem(k) || t.open[len(t.open)-1].items < api.MaxItems
}

// beginsItem tells whether one more element of a list or a record begins by such an event: a record's begins by its name.
func (t *Tally) beginsItem(k api.EventKind) bool {
	if len(t.open) == 0 {
		return false
	}
	return k == api.EvName || t.open[len(t.open)-1].kind == api.EvList
}

func (t *Tally) count(k api.EventKind) {
	if t.beginsItem(k) {
		t.open[len(t.open)-1].items++
	}
	switch k {
	case api.EvName:
		return // its value counts when it comes
	case api.EvList, api.EvRecord, api.EvTag:
		t.open = append(t.open, part{kind: k})
	}
	t.size++
}
