package json

import (
	"strings"

	"calamus/api"
	"calamus/hex"
	"calamus/utf"
)

// maxQuoted is how many bytes the characters of a text in quotes may have: the digits of bytes are the most.
const maxQuoted = 2 * api.MaxText

// The characters that stand behind a `\`, and what they mean.
const (
	escapes = `"\/bfnrt`
	escaped = "\"\\/\b\f\n\r\t"
)

// Two numbers behind `\u` are one character, if the first is from firstHigh on, and the second from firstLow on.
const (
	firstHigh = 0xd800
	firstLow  = 0xdc00
	behindLow = 0xe000
	firstPair = 0x10000
)

// place is where in a text in quotes the next byte stands.
type place int

const (
	outside  place = iota
	inText         // a character begins, or goes on
	inEscape       // behind a `\`
	inDigits       // behind `\u`, and fewer than four digits
)

// quoted is a text in quotes, as far as it has come.
type quoted struct {
	place  place
	held   []byte // its characters
	digits int    // that have come behind `\u`
	number int    // which they tell
	high   int    // the first number of two, of which the second has to come; else 0
}

// take goes on by the next byte, and tells whether the text ends by it.
func (q *quoted) take(c byte) bool {
	switch q.place {
	case inEscape:
		q.escape(c)
	case inDigits:
		q.digit(c)
	default:
		return q.plain(c)
	}
	return false
}

// plain takes a byte that no `\` stands ahead of.
func (q *quoted) plain(c byte) bool {
	switch {
	case c == '\\':
		q.place = inEscape
	case q.high != 0 || c < ' ':
		panic(api.ErrJson)
	case c == '"':
		return true
	default:
		q.hold(string([]byte{c}))
	}
	return false
}

func (q *quoted) escape(c byte) {
	if c == 'u' {
		q.place, q.digits, q.number = inDigits, 0, 0
		return
	}
	i := strings.IndexByte(escapes, c)
	if i < 0 || q.high != 0 {
		panic(api.ErrJson)
	}
	q.hold(escaped[i : i+1])
	q.place = inText
}

func (q *quoted) digit(c byte) {
	if c >= 'A' && c <= 'F' {
		c += 'a' - 'A'
	}
	d, ok := hex.Digit(c)
	if !ok {
		panic(api.ErrJson)
	}
	q.digits++
	q.number = q.number<<4 | d
	if q.digits == 4 {
		q.endNumber()
		q.place = inText
	}
}

// endNumber makes a character of the number that was told, or of it and the one ahead of it.
func (q *quoted) endNumber() {
	n := q.number
	switch {
	case q.high == 0 && n >= firstHigh && n < firstLow:
		q.high = n
		return
	case q.high != 0 && (n < firstLow || n >= behindLow):
		panic(api.ErrJson)
	case q.high != 0:
		n = firstPair + (q.high-firstHigh)<<10 + n - firstLow
		q.high = 0
	}
	s, e := utf.Encode(n)
	if e != api.OK {
		panic(api.ErrJson)
	}
	q.hold(s)
}

// hold keeps more bytes of the text. Where they are too many the document is long enough to be refused by its limits, whatever comes.
func (q *quoted) hold(s string) {
	if len(q.held)+len(s) > maxQuoted {
		panic(api.ErrLimit)
	}
	q.held = append(q.held, s...)
}

// text is what was held: the text has ended.
func (q *quoted) text() string {
	s := string(q.held)
	if !utf.Valid(s) { // what a `\` told is whole characters: it mends no others
		panic(api.ErrJson)
	}
	return s
}
