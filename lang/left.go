package lang

import (
	"slices"

	"calamus/api"
	"calamus/lex"
)

// wrong is what a reader gives up by: the place of the first token that is wrong.
type wrong int

// left are closures over the tokens that are left of a text.
type left struct {
	first func() api.Token // the first one
	take  func() api.Token // the same, but it is left no more
}

// read answers what whole reads of text, if that is all of it, or else the first error and its place.
func read[T any](text string, whole func(l left) T) (out T, e api.Errno, at int) {
	tokens, e, at := lex.Scan(text)
	if e != api.OK {
		return out, e, at
	}
	defer func() {
		if place, ok := recover().(wrong); ok {
			e, at = api.ErrLangForm, int(place)
		}
	}()
	l := over(tokens, len(text))
	all := whole(l)
	l.end()
	return all, api.OK, 0
}

// over are the closures over all tokens of a text. The text's end stands behind them as one that has no Word: nobody asks for such a one, so whoever takes it gives up.
func over(tokens []api.Token, end int) left {
	tokens = append(tokens, api.Token{At: end})
	return left{
		first: func() api.Token {
			return tokens[0]
		},
		take: func() api.Token {
			t := tokens[0]
			tokens = tokens[1:]
			return t
		},
	}
}

// end gives up, if a token is left.
func (l left) end() {
	if t := l.first(); t.Word != 0 {
		panic(wrong(t.At))
	}
}

// has tells whether a mark comes first; if so, it takes it.
func (l left) has(mark string) bool {
	if own(l.first()) != mark {
		return false
	}
	l.take()
	return true
}

// want takes a mark, or gives up.
func (l left) want(mark string) {
	if t := l.take(); own(t) != mark {
		panic(wrong(t.At))
	}
}

// name takes a name that is none of others, or gives up.
func (l left) name(others ...string) string {
	t := l.take()
	if t.Word != api.WordName && t.Word != api.WordText || slices.Contains(others, t.Text) {
		panic(wrong(t.At))
	}
	return t.Text
}

// named takes, behind a `{`, names with a mark and an item behind each, up to the `}`, or gives up.
func named[T any](l left, mark string, item func(l left) T) (names []string, items []T) {
	if l.has("}") {
		return nil, nil
	}
	for {
		names = append(names, l.name(names...))
		l.want(mark)
		items = append(items, item(l))
		if l.has("}") {
			return names, items
		}
		l.want(",")
	}
}

// own is what a token says that may be a word, or a mark, of the language itself; of others it is nothing.
func own(t api.Token) string {
	if t.Word == api.WordName || t.Word == api.WordMark {
		return t.Text
	}
	return ""
}
