package lex

import (
	"strings"

	"calamus/api"
	"calamus/num"
)

// kind is what may stand at a place of a text. No two kinds begin with the same byte.
type kind int

const (
	blank kind = iota
	name
	number
	quoted
	mark
	kinds // how many there are
)

// words are those of the tokens of each kind. A blank is no token.
var words = [kinds]api.Word{name: api.WordName, number: api.WordNum, quoted: api.WordText, mark: api.WordMark}

// longest is how many bytes the Text of a token of each kind may have.
var longest = [kinds]int{name: api.MaxName, number: api.MaxNumLen, quoted: api.MaxText, mark: 1}

const (
	blanks    = " \t\n\r"
	marks     = ".;,:=()[]{}"
	inNumbers = ".eE+-" // beside digits
)

// kindOf tells the kind of the tokens of a Word; blank, if none has it.
func kindOf(w api.Word) kind {
	for k := name; k < kinds; k++ {
		if words[k] == w {
			return k
		}
	}
	return blank
}

// cut tells of what is of kind k at the front of s, which is not empty, what it says, and how many bytes it has; none, if nothing of that kind stands there.
func (k kind) cut(s string) (string, int) {
	size := 0
	switch k {
	case blank:
		return "", blankSize(s)
	case quoted:
		return unquote(s)
	case name:
		size = nameSize(s)
	case number:
		size = numberSize(s)
	case mark:
		size = markSize(s)
	}
	return s[:size], size
}

// blankSize goes from a `#` on to the end of its line, else by one byte.
func blankSize(s string) int {
	switch {
	case s[0] == '#':
		return run(s, func(c byte) bool { return c != '\n' })
	case strings.IndexByte(blanks, s[0]) >= 0:
		return 1
	}
	return 0
}

func nameSize(s string) int {
	if isDigit(s[0]) {
		return 0
	}
	return run(s, func(c byte) bool { return isLetter(c) || isDigit(c) })
}

func numberSize(s string) int {
	if s[0] != '-' && !isDigit(s[0]) {
		return 0
	}
	size := run(s, func(c byte) bool { return isDigit(c) || strings.IndexByte(inNumbers, c) >= 0 })
	if _, e := num.Parse(s[:size]); e == api.ErrNumForm { // one that is beyond num's limits is a token, too
		return 0
	}
	return size
}

func markSize(s string) int {
	if strings.IndexByte(marks, s[0]) < 0 {
		return 0
	}
	return 1
}

// run tells how many bytes at the front of s are such ones.
func run(s string, such func(c byte) bool) int {
	n := 0
	for n < len(s) && such(s[n]) {
		n++
	}
	return n
}

func isLetter(c byte) bool {
	return c >= 'a' && c <= 'z' || c >= 'A' && c <= 'Z' || c == '_'
}

func isDigit(c byte) bool {
	return c >= '0' && c <= '9'
}
