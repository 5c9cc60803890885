package norm

import (
	"slices"

	"calamus/api"
)

// place is where a rule may be done: the steps from one of them on, and the Kind of what comes to that one.
type place struct {
	came  api.Kind
	steps []api.Expr
}

// rule tells what may stand in the place of a place's steps, if it knows anything. Limits left aside, that makes the same of each value that comes, and refuses the same ones; and it passes no limit where the steps pass none. (That it refuses whatever the steps refuse for another cause than a limit would not do: an error that one rule puts behind an ErrLimit could be lost by the next one, that does not pass the limit any more.) No rule makes a mapping larger; and either it makes it smaller, or there are fewer OpMaps then, or more OpIds. So there is an end of it.
type rule func(p place) ([]api.Expr, bool)

// rules are all of them: one that needs to know much of the steps, or takes away how much there is to be known, stands behind the others.
func rules() [9]rule {
	return [9]rule{
		place.laid, place.idle, place.untagged, place.taken, place.unasked,
		place.listed, place.uncounted, place.unwritten, place.joined,
	}
}

// laid lays the steps of an OpPipe in the row in which it stands.
func (p place) laid() ([]api.Expr, bool) {
	if p.steps[0].Op != api.OpPipe {
		return nil, false
	}
	return slices.Concat(p.steps[0].List, p.steps[1:]), true
}

// idle leaves out a step that makes of what comes just that.
func (p place) idle() ([]api.Expr, bool) {
	return p.steps[1:], isIdle(p.steps[0], p.came)
}

// untagged leaves out a tag that is taken off again.
func (p place) untagged() ([]api.Expr, bool) {
	if !p.begins(api.OpTag, api.OpCase) {
		return nil, false
	}
	i := slices.Index(p.steps[1].Names, p.steps[0].Name)
	if i < 0 {
		return nil, false
	}
	return p.instead(p.steps[1].List[i]), true
}

// taken leaves out a record that is made for one of its elements.
func (p place) taken() ([]api.Expr, bool) {
	if !p.begins(api.OpRecord, api.OpGet) {
		return nil, false
	}
	l := p.steps[0].List
	i := slices.Index(p.steps[0].Names, p.steps[1].Name)
	if i < 0 || !takeAll(l[:i], p.came) || !takeAll(l[i+1:], p.came) {
		return nil, false
	}
	return p.instead(l[i]), true
}

// unasked leaves out what is made ahead of an OpConst.
func (p place) unasked() ([]api.Expr, bool) {
	return p.steps[1:], len(p.steps) > 1 && p.steps[1].Op == api.OpConst && takes(p.steps[0], p.came)
}

// listed leaves out a step that asks for a list alone, as the next one does, too.
func (p place) listed() ([]api.Expr, bool) {
	asks := p.begins(api.OpMap, api.OpMap) || p.begins(api.OpMap, api.OpSum) || p.begins(api.OpMap, api.OpCount)
	return p.steps[1:], asks && p.steps[0].List[0].Op == api.OpId
}

// uncounted leaves out what is made last of elements that are counted then.
func (p place) uncounted() ([]api.Expr, bool) {
	if !p.begins(api.OpMap, api.OpCount) {
		return nil, false
	}
	l := stepsOf(p.steps[0].List[0])
	n := len(l) - 1
	if n < 0 || !takes(l[n], ahead(l, n, unknown)) {
		return nil, false
	}
	return p.instead(onEach(piped(l[:n])), p.steps[1]), true
}

// unwritten leaves out that a number is written, when it is read again; texts are not changed, and that of a bool is no number.
func (p place) unwritten() ([]api.Expr, bool) {
	return p.steps[1:], p.begins(api.OpToText, api.OpToNum)
}

// joined goes through a list once, not twice.
func (p place) joined() ([]api.Expr, bool) {
	if !p.begins(api.OpMap, api.OpMap) {
		return nil, false
	}
	both := slices.Concat(stepsOf(p.steps[0].List[0]), stepsOf(p.steps[1].List[0]))
	return p.instead(onEach(piped(both))), true
}

// begins tells whether the first two steps have these Ops.
func (p place) begins(first, second api.Op) bool {
	return len(p.steps) > 1 && p.steps[0].Op == first && p.steps[1].Op == second
}

// instead is the steps with others in the place of the first two.
func (p place) instead(l ...api.Expr) []api.Expr {
	return slices.Concat(l, p.steps[2:])
}

// onEach does e with each element of a list.
func onEach(e api.Expr) api.Expr {
	return api.Expr{Op: api.OpMap, List: []api.Expr{e}}
}
