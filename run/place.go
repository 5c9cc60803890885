package run

import (
	"slices"

	"calamus/api"
	"calamus/tally"
)

// feed is what is done with an event. What is refused gives up by a panic with an api.Errno.
type feed func(e api.Event)

// course is how far the events of values have gone, of which one comes behind the other.
type course struct {
	open int // lists, records and tags that have begun, and have not ended yet
}

// level goes on by an event, and answers in how many lists, records and tags it stands: a value's last event in as many as its first.
func (c *course) level(e api.Event) int {
	switch e.Kind {
	case api.EvList, api.EvRecord, api.EvTag:
		c.open++
		return c.open - 1
	case api.EvEnd:
		c.open--
	}
	return c.open
}

// isOver tells whether the last value is whole.
func (c *course) isOver() bool { return c.open == 0 }

// place is what all places of a program have. Of each value that comes it makes one, and has told all of that by the time that the one that comes is whole.
type place struct {
	course      // of what comes
	out    feed // what is done with what it makes
}

// maker is a place that lays a list, a record or a tag around what others make.
type maker struct {
	place
	size int // values in what it makes, itself too
}

// begin tells that what it makes begins.
func (m *maker) begin(e api.Event) {
	m.size = 0
	m.weigh(e, 0)
	m.out(e)
}

// weigh gives up, if an event, which stands in that many of the lists, records and tags that are made, passes a limit. There are no others than these two: names come from the program or from what is within the limits, lists do not grow, and a number's text is short.
func (m *maker) weigh(e api.Event, level int) {
	if !begins(e) {
		return
	}
	m.size++
	if m.size > api.MaxSize || level >= api.MaxDepth {
		panic(api.ErrLimit)
	}
}

// end tells that what it makes ends.
func (m *maker) end() { m.out(api.Event{Kind: api.EvEnd}) }

// begins tells whether a value begins by e.
func begins(e api.Event) bool { return e.Kind != api.EvName && e.Kind != api.EvEnd }

// gate is the place ahead of a program, which holds what is fed against the limits.
type gate struct {
	place
	tally *tally.Tally
}

func (g *gate) take(e api.Event) {
	if bad := g.tally.Take(e); bad != api.OK {
		panic(bad)
	}
	g.out(e)
}

// start is what a program does with what is fed.
func (m *Machine) start(l []api.Node) feed {
	do := m.lay(l, 0, m.tell)
	if l[0].Op == api.OpId {
		return do // it tells each event by the Feed that brings it (P19.4), however many come
	}
	return (&gate{place{out: do}, tally.New()}).take
}

// lay makes the places of a node and of those within it, and answers what is done there with what comes; what they make goes to out. Nothing of l is kept.
func (m *Machine) lay(l []api.Node, at int, out feed) feed {
	n, p := l[at], place{out: out}
	switch n.Op {
	case api.OpGet:
		return (&getter{place: p, name: n.Name}).take
	case api.OpRecord:
		return m.layRecord(l, n, p)
	case api.OpMap:
		x := &mapper{maker: maker{place: p}}
		x.each = m.lay(l, n.Kids[0], x.add)
		return x.take
	case api.OpTag:
		return (&tagger{maker{place: p}, n.Name}).take
	case api.OpCase:
		x := &chooser{place: p, names: slices.Clone(n.Names)}
		for _, kid := range n.Kids {
			x.branches = append(x.branches, m.lay(l, kid, out))
		}
		return x.take
	case api.OpConst:
		return (&constant{p, api.Event{Kind: api.EventKind(n.Value.Kind), Flag: n.Value.Flag, Num: n.Value.Num, Text: n.Value.Text}}).take
	case api.OpToText:
		return (&texter{p}).take
	case api.OpToNum:
		return (&number{p}).take
	case api.OpSum:
		return (&adder{place: p}).take
	case api.OpCount:
		return (&counter{place: p}).take
	case api.OpPipe:
		for _, kid := range slices.Backward(n.Kids) {
			out = m.lay(l, kid, out)
		}
	}
	return out
}

// layRecord is lay of an OpRecord.
func (m *Machine) layRecord(l []api.Node, n api.Node, p place) feed {
	x := &recorder{maker: maker{place: p}, held: &m.held}
	for i, kid := range n.Kids {
		y := &element{record: x, name: n.Names[i]}
		y.do = m.lay(l, kid, y.add)
		x.elements = append(x.elements, y)
	}
	return x.take
}
