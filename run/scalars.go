package run

import (
	"strconv"

	"calamus/api"
	"calamus/num"
)

// constant makes always the same.
type constant struct {
	place
	made api.Event
}

func (c *constant) take(e api.Event) {
	if c.level(e) == 0 && begins(e) {
		c.out(c.made)
	}
}

// texter makes a text of a bool, a number or a text.
type texter struct{ place }

func (t *texter) take(e api.Event) {
	switch e.Kind {
	case api.EvBool:
		e = api.Event{Kind: api.EvText, Text: strconv.FormatBool(e.Flag)}
	case api.EvNum:
		s, _ := num.Print(e.Num) // it is a number
		e = api.Event{Kind: api.EvText, Text: s}
	case api.EvText:
	default:
		panic(api.ErrEvalType)
	}
	t.out(e)
}

// number makes a number of a number or a text.
type number struct{ place }

func (n *number) take(e api.Event) {
	switch e.Kind {
	case api.EvText:
		e = numberEvent(num.Parse(e.Text))
	case api.EvNum:
	default:
		panic(api.ErrEvalType)
	}
	n.out(e)
}

// adder adds up a list of numbers from the front.
type adder struct {
	place
	sum api.Num
}

func (a *adder) take(e api.Event) {
	switch at := a.level(e); {
	case at == 0 && e.Kind == api.EvList:
		a.sum, _ = num.Of(false, nil)
	case at == 0 && e.Kind == api.EvEnd:
		a.out(api.Event{Kind: api.EvNum, Num: a.sum})
	case at == 1 && e.Kind == api.EvNum:
		a.sum = numberEvent(num.Add(a.sum, e.Num)).Num
	default:
		panic(api.ErrEvalType)
	}
}

// counter tells how many elements a list has.
type counter struct {
	place
	n int
}

func (c *counter) take(e api.Event) {
	switch at := c.level(e); {
	case at == 1 && begins(e):
		c.n++
	case at > 0:
		// within an element
	case e.Kind == api.EvList:
		c.n = 0
	case e.Kind == api.EvEnd:
		c.out(numberEvent(num.Parse(strconv.Itoa(c.n))))
	default:
		panic(api.ErrEvalType)
	}
}

// numberEvent is that of a number that a call of num answers, unless it refuses it.
func numberEvent(n api.Num, bad api.Errno) api.Event {
	if bad != api.OK {
		panic(api.ErrEvalCoerce)
	}
	return api.Event{Kind: api.EvNum, Num: n}
}
