package lang

import (
	"calamus/api"
	"calamus/num"
)

// plainSteps are the words of steps with nothing behind them, each in its Op's place.
var plainSteps = [...]string{api.OpId: "id", api.OpToText: "totext", api.OpToNum: "tonum", api.OpSum: "sum", api.OpCount: "count"}

// mapping takes steps with `;` between.
func mapping(l left) api.Expr {
	steps := []api.Expr{step(l)}
	for l.has(";") {
		steps = append(steps, step(l))
	}
	if len(steps) == 1 {
		return steps[0]
	}
	return api.Expr{Op: api.OpPipe, List: steps}
}

// step takes one step.
func step(l left) api.Expr {
	t := l.take()
	switch own(t) {
	case "(":
		return closed(l, ")")
	case "[":
		return api.Expr{Op: api.OpMap, List: []api.Expr{closed(l, "]")}}
	case ".":
		return api.Expr{Op: api.OpGet, Name: l.name()}
	case "tag":
		return api.Expr{Op: api.OpTag, Name: l.name()}
	case "{":
		return branches(l, api.OpRecord)
	case "case":
		l.want("{")
		return branches(l, api.OpCase)
	case "const":
		return api.Expr{Op: api.OpConst, Value: constant(l)}
	}
	return plainStep(t)
}

// closed takes a mapping and the mark behind it.
func closed(l left, mark string) api.Expr {
	m := mapping(l)
	l.want(mark)
	return m
}

// branches takes what stands behind the `{` of an Op.
func branches(l left, op api.Op) api.Expr {
	names, list := named(l, "=", mapping)
	return api.Expr{Op: op, Names: names, List: list}
}

// constant takes what stands behind `const`.
func constant(l left) api.Value {
	t := l.take()
	switch t.Word {
	case api.WordText:
		return api.Value{Kind: api.KindText, Text: t.Text}
	case api.WordNum:
		n, _ := num.Parse(t.Text) // if it is refused, n is no number: Check tells so, when all tokens are read
		return api.Value{Kind: api.KindNum, Num: n}
	}
	switch own(t) {
	case "null":
		return api.Value{Kind: api.KindNull}
	case "true", "false":
		return api.Value{Kind: api.KindBool, Flag: t.Text == "true"}
	}
	panic(wrong(t.At))
}

// plainStep is the step that is one word.
func plainStep(t api.Token) api.Expr {
	for op, word := range plainSteps {
		if word != "" && word == own(t) {
			return api.Expr{Op: api.Op(op)}
		}
	}
	panic(wrong(t.At))
}

// mappingTokens are those of a mapping.
func mappingTokens(e api.Expr) []api.Token {
	switch e.Op {
	case api.OpGet:
		return []api.Token{markToken("."), nameToken(e.Name)}
	case api.OpTag:
		return []api.Token{wordToken("tag"), nameToken(e.Name)}
	case api.OpConst:
		return []api.Token{wordToken("const"), constantToken(e.Value)}
	case api.OpMap:
		return between("[", mappingTokens(e.List[0]), "]")
	case api.OpRecord:
		return namedTokens(e.Names, "=", e.List, mappingTokens)
	case api.OpCase:
		return append([]api.Token{wordToken("case")}, namedTokens(e.Names, "=", e.List, mappingTokens)...)
	case api.OpPipe:
		return pipeTokens(e.List)
	}
	return []api.Token{wordToken(plainSteps[e.Op])}
}

// constantToken is the one of an OpConst's Value.
func constantToken(v api.Value) api.Token {
	switch v.Kind {
	case api.KindText:
		return api.Token{Word: api.WordText, Text: v.Text}
	case api.KindNum:
		s, _ := num.Print(v.Num) // it is a number
		return api.Token{Word: api.WordNum, Text: s}
	case api.KindNull:
		return wordToken("null")
	}
	if v.Flag {
		return wordToken("true")
	}
	return wordToken("false")
}

// pipeTokens are those of an OpPipe's List.
func pipeTokens(steps []api.Expr) []api.Token {
	var l []api.Token
	for i, e := range steps {
		if i > 0 {
			l = append(l, markToken(";"))
		}
		t := mappingTokens(e)
		if e.Op == api.OpPipe { // else its steps would be those of the outer one
			t = between("(", t, ")")
		}
		l = append(l, t...)
	}
	return l
}
