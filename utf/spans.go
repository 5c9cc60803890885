package utf

import (
	"strings"
	"unicode/utf8"
)

// span is the least and the greatest byte that may stand at a place.
type span [2]byte

// spans are those of the bytes that a character still needs, the next one's first; noughts stand behind its last.
type spans [4]span

// between is where a character has ended and none has begun.
var between = spans{}

// longer are the spans of the characters that have more than one byte: no other one can be cut off. No first byte is in two of them.
var longer = [...]spans{
	{{0xc2, 0xdf}, {0x80, 0xbf}},
	{{0xe0, 0xe0}, {0xa0, 0xbf}, {0x80, 0xbf}}, // less would be too long a form
	{{0xe1, 0xec}, {0x80, 0xbf}, {0x80, 0xbf}},
	{{0xed, 0xed}, {0x80, 0x9f}, {0x80, 0xbf}}, // more would be d800 to dfff
	{{0xee, 0xef}, {0x80, 0xbf}, {0x80, 0xbf}},
	{{0xf0, 0xf0}, {0x90, 0xbf}, {0x80, 0xbf}, {0x80, 0xbf}}, // less would be too long a form
	{{0xf1, 0xf3}, {0x80, 0xbf}, {0x80, 0xbf}, {0x80, 0xbf}},
	{{0xf4, 0xf4}, {0x80, 0x8f}, {0x80, 0xbf}, {0x80, 0xbf}}, // more would be above 10ffff
}

// through tells what is still needed behind the part s, and whether s may stand here at all.
func (p spans) through(s string) (spans, bool) {
	for at, r := range s {
		if p == between && isWhole(r, s[at:]) {
			continue
		}
		// Where no character is whole, the range goes on by one byte. Where one is, its first byte can't be what is needed.
		var ok bool
		if p, ok = p.step(s[at]); !ok {
			return spans{}, false
		}
	}
	return p, true
}

// isWhole tells whether r is the character that s begins with, and not what a range tells of bytes that are none's.
func isWhole(r rune, s string) bool {
	return r != utf8.RuneError || strings.HasPrefix(s, "\ufffd")
}

// step tells what is still needed behind b, and whether b may stand here.
func (p spans) step(b byte) (spans, bool) {
	if p != between {
		return p.next(b)
	}
	for _, c := range longer {
		if rest, ok := c.next(b); ok {
			return rest, true
		}
	}
	return spans{}, false
}

// next is step within a character.
func (p spans) next(b byte) (spans, bool) {
	if b < p[0][0] || b > p[0][1] {
		return spans{}, false
	}
	return spans{p[1], p[2], p[3]}, true
}
