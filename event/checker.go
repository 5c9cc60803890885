package event

import (
	"calamus/api"
	"calamus/value"
)

// Checker follows events that come one by one.
type Checker struct {
	open   []part // the innermost one last
	begun  bool   // the value that stands in no other one has
	broken bool   // no value's events begin with what was fed
}

// part is a list, a record or a tag that has begun, and has not ended yet.
type part struct {
	kind  api.EventKind
	waits bool                // a value has to come: a name stands alone, or a tag is empty
	names map[string]struct{} // a record's so far
}

// New is P5.3.
func New() *Checker {
	return &Checker{}
}

// Feed is P5.3.
func (c *Checker) Feed(e api.Event) api.Errno {
	if c == nil {
		return api.ErrNil
	}
	if c.broken || !mayBe(e) || !c.take(e) {
		*c = Checker{broken: true} // whatever comes now, no more is asked
		return api.ErrEventForm
	}
	return api.OK
}

// Done is P5.3.
func (c *Checker) Done() bool {
	return c != nil && c.begun && len(c.open) == 0
}

// Open is P5.3.
func (c *Checker) Open() int {
	if c == nil {
		return 0
	}
	return len(c.open)
}

// mayBe tells whether e may be, by the value that has the same fields, and else as little as there can be.
func mayBe(e api.Event) bool {
	v := head(e)
	switch e.Kind {
	case api.EvTag, api.EvName: // a name is a text, as a tag's is
		v.Kind, v.List = api.KindTag, []api.Value{{Kind: api.KindNull}}
	case api.EvEnd: // it uses nothing, as null
		v.Kind = api.KindNull
	}
	return value.Check(v) != api.ErrValueForm
}

// take goes on by an event that may be, and answers whether it may stand here.
func (c *Checker) take(e api.Event) bool {
	switch e.Kind {
	case api.EvName:
		return c.takeName(e.Text)
	case api.EvEnd:
		return c.takeEnd()
	}
	if !c.takeValue() {
		return false
	}
	switch e.Kind {
	case api.EvList:
		c.open = append(c.open, part{kind: e.Kind})
	case api.EvRecord:
		c.open = append(c.open, part{kind: e.Kind, names: map[string]struct{}{}})
	case api.EvTag:
		c.open = append(c.open, part{kind: e.Kind, waits: true})
	}
	return true
}

// takeValue goes on by the beginning of a value.
func (c *Checker) takeValue() bool {
	in := c.inner()
	if in == nil {
		first := !c.begun
		c.begun = true
		return first
	}
	may := in.waits || in.kind == api.EvList
	in.waits = false
	return may
}

// takeName goes on by a record's name.
func (c *Checker) takeName(name string) bool {
	in := c.inner()
	if in == nil || in.kind != api.EvRecord || in.waits {
		return false
	}
	if _, twice := in.names[name]; twice {
		return false
	}
	in.names[name] = struct{}{}
	in.waits = true
	return true
}

// takeEnd goes on by the end of what has begun last.
func (c *Checker) takeEnd() bool {
	in := c.inner()
	if in == nil || in.waits {
		return false
	}
	*in = part{} // its names are not asked for any more
	c.open = c.open[:len(c.open)-1]
	return true
}

// inner is the part that has begun last, nil if none is open.
func (c *Checker) inner() *part {
	if len(c.open) == 0 {
		return nil
	}
	return &c.open[len(c.open)-1]
}
