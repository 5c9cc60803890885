package run

import (
	"slices"

	"calamus/api"
)

// getter takes an element out of a record.
type getter struct {
	place
	name  string
	on    bool // the element is coming
	found bool // it has come, or is coming
}

func (g *getter) take(e api.Event) {
	switch at := g.level(e); {
	case at == 0:
		g.bound(e)
	case at == 1 && e.Kind == api.EvName:
		g.on = e.Text == g.name
		g.found = g.found || g.on
	case g.on:
		g.out(e)
	}
}

// bound goes on by the first or the last event of a value.
func (g *getter) bound(e api.Event) {
	switch {
	case e.Kind == api.EvRecord:
		g.found = false
	case e.Kind != api.EvEnd || !g.found:
		panic(api.ErrEvalType)
	}
}

// mapper goes through a list.
type mapper struct {
	maker
	each feed   // what is done with the elements
	made course // of what that makes
}

func (m *mapper) take(e api.Event) {
	switch at := m.level(e); {
	case at > 0:
		m.each(e)
	case e.Kind == api.EvList:
		m.begin(e)
	case e.Kind == api.EvEnd:
		m.end()
	default:
		panic(api.ErrEvalType)
	}
}

// add is what is done with what is made of the elements.
func (m *mapper) add(e api.Event) {
	m.weigh(e, 1+m.made.level(e))
	m.out(e)
}

// tagger puts a tag round a value.
type tagger struct {
	maker
	name string
}

func (t *tagger) take(e api.Event) {
	at := t.level(e)
	if at == 0 && begins(e) {
		t.begin(api.Event{Kind: api.EvTag, Text: t.name})
	}
	t.weigh(e, 1+at)
	t.out(e)
	if t.isOver() {
		t.end()
	}
}

// chooser goes on by a tag's name, with what is in it.
type chooser struct {
	place
	names    []string
	branches []feed
	chosen   feed
}

func (c *chooser) take(e api.Event) {
	switch at := c.level(e); {
	case at > 0:
		c.chosen(e)
	case e.Kind != api.EvEnd:
		c.choose(e)
	}
}

// choose goes on by a value's first event.
func (c *chooser) choose(e api.Event) {
	i := slices.Index(c.names, e.Text)
	if e.Kind != api.EvTag || i < 0 {
		panic(api.ErrEvalType)
	}
	c.chosen = c.branches[i]
}
