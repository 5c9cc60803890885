package lang

import (
	"calamus/api"
	"calamus/lex"
)

func markToken(s string) api.Token {
	return api.Token{Word: api.WordMark, Text: s}
}

func wordToken(s string) api.Token {
	return api.Token{Word: api.WordName, Text: s}
}

// nameToken is a WordName, if it can be one.
func nameToken(s string) api.Token {
	t := wordToken(s)
	if _, e := lex.Print([]api.Token{t}); e != api.OK {
		t.Word = api.WordText
	}
	return t
}

// between puts two marks round tokens.
func between(open string, l []api.Token, shut string) []api.Token {
	return append(append([]api.Token{markToken(open)}, l...), markToken(shut))
}

// namedTokens are those from `{` to `}`: names with a mark and an item behind each.
func namedTokens[T any](names []string, behind string, items []T, tokens func(item T) []api.Token) []api.Token {
	var l []api.Token
	for i, s := range names {
		if i > 0 {
			l = append(l, markToken(","))
		}
		l = append(l, nameToken(s), markToken(behind))
		l = append(l, tokens(items[i])...)
	}
	return between("{", l, "}")
}
