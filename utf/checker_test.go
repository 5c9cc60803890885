package utf_test

import (
	"testing"

	"calamus/api"
	"calamus/utf"
)

// feedWants is what Feed must answer, if s is all that was fed.
func feedWants(s string) api.Errno {
	if _, e := charactersOf(s); e == api.ErrUtfForm {
		return e
	}
	return api.OK
}

// endWants is what End must answer, if s is all that was fed.
func endWants(s string) api.Errno {
	_, e := charactersOf(s)
	return e
}

// feedParts feeds s cut behind each place whose bit is in cuts, and asks End in between, or not.
func feedParts(t *testing.T, s string, cuts int, ask bool) *utf.Checker {
	t.Helper()
	c, from := utf.New(), 0
	for at := 1; at <= len(s); at++ {
		if at < len(s) && cuts>>(at-1)&1 == 0 {
			continue
		}
		if got, want := c.Feed([]byte(s[from:at])), feedWants(s[:at]); got != want {
			t.Fatalf("% x, cuts %b: Feed of %d to %d = %d, want %d", s, cuts, from, at, got, want)
		}
		if ask && c.End() != endWants(s[:at]) {
			t.Fatalf("% x, cuts %b: End behind %d = %d, want %d", s, cuts, at, c.End(), endWants(s[:at]))
		}
		from = at
	}
	return c
}

// shortTexts are few characters of all lengths, and bytes that are no text, each with something around.
func shortTexts() []string {
	list := []string{"", "a", "\u00e9", "\u20ac", "\U0001f600", "\ufffd", "\U0010ffff", "a\u00e9\u20ac", "\u20ac\U0001f600", "\U0001f600\u00e9b", "\ufffd\ufffd", "\xef\xbf", "\u00e9\u07ff\u0080", "a\xe2\x82", "\u20ac\xf0\x9f\x98", "\xf4\x8f\xbf\xbf\xc2"}
	for _, bad := range noTexts() {
		list = append(list, bad, "\u20ac"+bad, bad+"\u20ac", "a"+bad+"a")
	}
	return list
}

// P3.3 of all cuttings into parts, with End asked in between and not.
func TestAllCuttings(t *testing.T) {
	for _, s := range shortTexts() {
		for cuts := range 1 << max(len(s)-1, 0) {
			for _, ask := range []bool{false, true} {
				if c := feedParts(t, s, cuts, ask); c.End() != endWants(s) {
					t.Errorf("% x, cuts %b: End = %d, want %d", s, cuts, c.End(), endWants(s))
				}
			}
		}
	}
}

// P3.3: a character cut in two, any character.
func TestEachCharacterInTwo(t *testing.T) {
	for s := range all().characters {
		for cut := 1; cut < len(s); cut++ {
			c := utf.New()
			one, within := c.Feed([]byte(s[:cut])), c.End()
			two, end := c.Feed([]byte(s[cut:])), c.End()
			if one != api.OK || within != api.ErrUtfEnd || two != api.OK || end != api.OK {
				t.Fatalf("% x, cut behind %d: %d, %d, %d, %d", s, cut, one, within, two, end)
			}
		}
	}
}

// P3.3: empty parts change nothing, wherever they come.
func TestEmptyParts(t *testing.T) {
	for _, s := range shortTexts() {
		c := utf.New()
		for at := range len(s) + 1 {
			for _, empty := range [][]byte{nil, {}, []byte("\xff\x80")[:0]} {
				if got, want := c.Feed(empty), feedWants(s[:at]); got != want || c.End() != endWants(s[:at]) {
					t.Errorf("% x: nothing behind %d = %d, %d", s, at, got, c.End())
				}
			}
			if at < len(s) {
				c.Feed([]byte{s[at]})
			}
		}
	}
}

// P3.3: behind ErrUtfForm nothing else is answered, whatever is fed.
func TestBrokenForGood(t *testing.T) {
	for _, s := range noTexts() {
		for _, whole := range []bool{true, false} {
			c := utf.New()
			if whole {
				c.Feed([]byte(s))
			} else {
				feedInto(c, s)
			}
			for _, more := range []string{"", "a", "\u20ac", "\x80", "\x80\x80", "\xe2", "\x82\xac", "\xff", "", "a text"} {
				if e := c.Feed([]byte(more)); e != api.ErrUtfForm {
					t.Errorf("% x, then % x: Feed = %d", s, more, e)
				}
				if e := c.End(); e != api.ErrUtfForm {
					t.Errorf("% x, then % x: End = %d", s, more, e)
				}
			}
		}
	}
}

// feedInto feeds s byte by byte.
func feedInto(c *utf.Checker, s string) {
	for i := range len(s) {
		c.Feed([]byte{s[i]})
	}
}

// P3.3: End may be asked again and again, and more may be fed behind it.
func TestEndChangesNothing(t *testing.T) {
	for _, s := range shortTexts() {
		asked := utf.New()
		for i := range len(s) {
			asked.Feed([]byte{s[i]})
			for range 3 {
				if e := asked.End(); e != endWants(s[:i+1]) {
					t.Errorf("% x: End behind %d = %d", s, i+1, e)
				}
			}
		}
	}
	if e := utf.New().End(); e != api.OK {
		t.Errorf("End of nothing = %d", e)
	}
}

// R3: no checker at all.
func TestNoChecker(t *testing.T) {
	var none *utf.Checker
	for _, b := range [][]byte{nil, {}, []byte("a"), {0xff}, {0xe2}} {
		if e := none.Feed(b); e != api.ErrNil {
			t.Errorf("Feed(% x) of none = %d", b, e)
		}
		if e := none.End(); e != api.ErrNil {
			t.Errorf("End of none = %d", e)
		}
	}
	if utf.New() == nil {
		t.Error("New is none")
	}
}

// R2: checkers know nothing of one another.
func TestCheckersApart(t *testing.T) {
	a, b, c := utf.New(), utf.New(), utf.New()
	a.Feed([]byte{0xe2})
	b.Feed([]byte{0xff})
	if c.End() != api.OK || a.End() != api.ErrUtfEnd || b.End() != api.ErrUtfForm {
		t.Errorf("End: %d, %d, %d", a.End(), b.End(), c.End())
	}
	if e := c.Feed([]byte{0x82}); e != api.ErrUtfForm {
		t.Errorf("what one was fed goes on in another: %d", e)
	}
	if e := a.Feed([]byte{0x82, 0xac}); e != api.OK || a.End() != api.OK {
		t.Errorf("what one was fed breaks another: %d, %d", e, a.End())
	}
	if d := utf.New(); d.Feed([]byte("a")) != api.OK {
		t.Error("a new one is broken")
	}
}

// R2: a part is not written into, nor the room behind it, and it is not kept.
func TestPartsAreTheCallers(t *testing.T) {
	room := []byte("\xf0\x9f\x98\x80\xf0\x9f")
	c := utf.New()
	if e := c.Feed(room[:2]); e != api.OK || string(room) != "\xf0\x9f\x98\x80\xf0\x9f" {
		t.Errorf("Feed = %d, and the room is % x", e, room)
	}
	for i := range room {
		room[i] = 'x'
	}
	if e := c.Feed([]byte{0x98, 0x80}); e != api.OK || c.End() != api.OK {
		t.Errorf("behind a part that was changed: %d, %d", e, c.End())
	}
}
