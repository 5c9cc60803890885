package lex

import (
	"strconv"

	"calamus/api"
	"calamus/utf"
)

// numbered is how many bytes a character has that stands as `\u` and four digits.
const numbered = len(`\u0000`)

// unquote tells what the characters of the text in quotes stand for that s begins with, and how many bytes it has, its quotes too; none, if it is no such text.
func unquote(s string) (string, int) {
	if s[0] != '"' {
		return "", 0
	}
	var said []byte
	at := 1
	for at < len(s) && s[at] != '"' {
		c, size := character(s[at:])
		if size == 0 {
			return "", 0
		}
		said = append(said, c...)
		at += size
	}
	if at == len(s) {
		return "", 0
	}
	return string(said), at + 1
}

// character tells what the character within quotes stands for that s begins with, and how many bytes it has; none, if it is no such one.
func character(s string) (string, int) {
	switch {
	case s[0] == '\\':
		return escaped(s)
	case s[0] < ' ':
		return "", 0
	}
	_, size, _ := utf.Decode(s, 0) // 0 beside an error
	return s[:size], size
}

// escaped is character, where s begins with `\`.
func escaped(s string) (string, int) {
	if len(s) == 1 {
		return "", 0
	}
	switch s[1] {
	case '"', '\\':
		return s[1:2], 2
	case 'u':
		return byNumber(s)
	}
	return "", 0
}

// byNumber is character, where s begins with `\u`.
func byNumber(s string) (string, int) {
	if len(s) < numbered {
		return "", 0
	}
	r, err := strconv.ParseUint(s[2:numbered], 16, 16) // which takes digits of both cases, and nothing else
	if err != nil {
		return "", 0
	}
	c, e := utf.Encode(int(r))
	if e != api.OK {
		return "", 0
	}
	return c, numbered
}
