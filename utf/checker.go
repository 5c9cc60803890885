package utf

import "calamus/api"

// Checker follows a text that comes in parts.
type Checker struct {
	open   spans // what the character needs within which the last part ended
	broken bool  // no text begins with what was fed
}

// New is P3.3.
func New() *Checker {
	return &Checker{}
}

// Feed is P3.3.
func (c *Checker) Feed(b []byte) api.Errno {
	if c == nil {
		return api.ErrNil
	}
	if c.broken {
		return api.ErrUtfForm
	}
	open, ok := c.open.through(string(b))
	c.open, c.broken = open, !ok
	if !ok {
		return api.ErrUtfForm
	}
	return api.OK
}

// End is P3.3.
func (c *Checker) End() api.Errno {
	switch {
	case c == nil:
		return api.ErrNil
	case c.broken:
		return api.ErrUtfForm
	case c.open != between:
		return api.ErrUtfEnd
	}
	return api.OK
}
