package lang_test

import (
	"fmt"
	"maps"
	"reflect"
	"regexp"
	"slices"
	"strings"
	"testing"

	"calamus/api"
	"calamus/lang"
	"calamus/lex"
	"calamus/num"
	"calamus/types"
	"calamus/value"
)

// What Parse and ParseType answer is reckoned here another way: the chapter's tables stand as rules, which are followed all at once (as Earley does), so that "a mapping's text begins so" is taken by its word; what is told of a whole text is cut apart by its brackets.

// rules are what a symbol may stand for. A symbol with `'` ahead is a token of that Text; N, num and quoted are tokens of a Word; others have rules.
type rules map[string][][]string

func rulesOf(lines ...string) rules {
	r := rules{}
	for _, line := range lines {
		f := strings.Fields(line)
		r[f[0]] = append(r[f[0]], f[1:])
	}
	return r
}

var mappingRules = rulesOf("all mapping", "mapping step", "mapping steps", "steps step '; step", "steps steps '; step",
	"step 'id", "step 'totext", "step 'tonum", "step 'sum", "step 'count",
	"step '. N", "step '{ '}", "step '{ pairs '}", "pairs pair", "pairs pairs ', pair", "pair N '= mapping",
	"step '[ mapping ']", "step 'tag N", "step 'case '{ '}", "step 'case '{ pairs '}",
	"step 'const num", "step 'const quoted", "step 'const 'null", "step 'const 'true", "step 'const 'false", "step '( mapping ')")

var typeRules = rulesOf("all type", "type 'any", "type 'null", "type 'bool", "type 'num", "type 'int", "type 'float", "type 'text", "type 'bytes",
	"type 'list '( type ')", "type many '{ '}", "type many '{ pairs '}", "many 'record", "many 'union", "pairs pair", "pairs pairs ', pair", "pair N ': type")

// matches tells whether a token is what a symbol without rules stands for.
func matches(symbol string, t api.Token) bool {
	switch symbol {
	case "N":
		return t.Word == api.WordName || t.Word == api.WordText
	case "num":
		return t.Word == api.WordNum
	case "quoted":
		return t.Word == api.WordText
	}
	return (t.Word == api.WordName || t.Word == api.WordMark) && "'"+t.Text == symbol
}

// spot is how far a rule is followed, and from which token on.
type spot struct {
	symbol     string
	rule, done int
	from       int
}

// next is the symbol at a spot, or nothing at the rule's end.
func (r rules) next(s spot) string {
	if rule := r[s.symbol][s.rule]; s.done < len(rule) {
		return rule[s.done]
	}
	return ""
}

// spread adds to the spots at a token all that they lead to without another token.
func (r rules) spread(all []map[spot]bool) {
	here := len(all) - 1
	work := slices.Collect(maps.Keys(all[here]))
	add := func(s spot) {
		if !all[here][s] {
			all[here][s] = true
			work = append(work, s)
		}
	}
	for len(work) > 0 {
		s := work[0]
		work = work[1:]
		if symbol := r.next(s); symbol != "" {
			for i := range r[symbol] {
				add(spot{symbol, i, 0, here})
			}
			continue
		}
		for waiting := range all[s.from] { // no rule is empty, so s.from is not here
			if r.next(waiting) == s.symbol {
				waiting.done++
				add(waiting)
			}
		}
	}
}

// follow tells how many tokens some whole text begins with, and whether all of them are one.
func (r rules) follow(l []api.Token) (int, bool) {
	all := []map[spot]bool{{spot{"all", 0, 0, 0}: true}}
	r.spread(all)
	for i, t := range l {
		further := map[spot]bool{}
		for s := range all[i] {
			if symbol := r.next(s); symbol != "" && r[symbol] == nil && matches(symbol, t) {
				s.done++
				further[s] = true
			}
		}
		if len(further) == 0 {
			return i, false
		}
		all = append(all, further)
		r.spread(all)
	}
	return len(l), all[len(l)][spot{"all", 0, 1, 0}]
}

// firstTwice tells which token is the first name that stands twice in one pair of `{` and `}`; how many there are, if none does. Names stand behind `{` and `,` alone.
func firstTwice(l []api.Token) int {
	var open [][]string
	for i, t := range l {
		if t.Word == api.WordMark && t.Text == "}" {
			open = open[:len(open)-1]
		}
		if i > 0 && l[i-1].Word == api.WordMark && strings.Contains("{,", l[i-1].Text) && t.Word != api.WordMark {
			if slices.Contains(open[len(open)-1], t.Text) {
				return i
			}
			open[len(open)-1] = append(open[len(open)-1], t.Text)
		}
		if t.Word == api.WordMark && t.Text == "{" {
			open = append(open, nil)
		}
	}
	return len(l)
}

// firstWrong tells the place of the first token that is wrong; -1, if all are a whole text.
func (r rules) firstWrong(text string, l []api.Token) int {
	good, whole := r.follow(l)
	good = min(good, firstTwice(l[:good]))
	switch {
	case good < len(l):
		return l[good].At
	case whole:
		return -1
	}
	return len(text)
}

// split cuts a text's tokens at a mark that stands in no bracket; none, if there are no tokens.
func split(l []api.Token, at string) [][]api.Token {
	if len(l) == 0 {
		return nil
	}
	var out [][]api.Token
	depth, from := 0, 0
	for i, t := range l {
		switch {
		case t.Word != api.WordMark:
		case strings.Contains("([{", t.Text):
			depth++
		case strings.Contains(")]}", t.Text):
			depth--
		case t.Text == at && depth == 0:
			out = append(out, l[from:i])
			from = i + 1
		}
	}
	return append(out, l[from:])
}

// inner are tokens without the first `from` of them, and without the last one.
func inner(l []api.Token, from int) []api.Token { return l[from : len(l)-1] }

// reckonExpr is the mapping of a whole text's tokens.
func reckonExpr(l []api.Token) api.Expr {
	if steps := split(l, ";"); len(steps) > 1 {
		e := api.Expr{Op: api.OpPipe}
		for _, s := range steps {
			e.List = append(e.List, reckonExpr(s))
		}
		return e
	}
	switch l[0].Text {
	case "(":
		return reckonExpr(inner(l, 1))
	case "[":
		return api.Expr{Op: api.OpMap, List: []api.Expr{reckonExpr(inner(l, 1))}}
	case ".":
		return api.Expr{Op: api.OpGet, Name: l[1].Text}
	case "tag":
		return api.Expr{Op: api.OpTag, Name: l[1].Text}
	case "{", "case":
		e, from := api.Expr{Op: api.OpRecord}, 1
		if l[0].Text == "case" {
			e, from = api.Expr{Op: api.OpCase}, 2
		}
		for _, pair := range split(inner(l, from), ",") {
			e.Names = append(e.Names, pair[0].Text)
			e.List = append(e.List, reckonExpr(pair[2:]))
		}
		return e
	case "const":
		return api.Expr{Op: api.OpConst, Value: reckonConst(l[1])}
	}
	return api.Expr{Op: map[string]api.Op{"id": 1, "totext": 8, "tonum": 9, "sum": 10, "count": 11}[l[0].Text]}
}

func reckonConst(t api.Token) api.Value {
	switch t.Word {
	case api.WordText:
		return api.Value{Kind: api.KindText, Text: t.Text}
	case api.WordNum:
		n, _ := num.Parse(t.Text)
		return api.Value{Kind: api.KindNum, Num: n}
	}
	return map[string]api.Value{"null": {Kind: api.KindNull}, "true": {Kind: api.KindBool, Flag: true}, "false": {Kind: api.KindBool}}[t.Text]
}

// reckonType is the type of a whole text's tokens.
func reckonType(l []api.Token) api.Type {
	switch l[0].Text {
	case "list":
		return api.Type{Kind: api.TypeList, List: []api.Type{reckonType(inner(l, 2))}}
	case "record", "union":
		t := api.Type{Kind: map[string]api.TypeKind{"record": 10, "union": 11}[l[0].Text]}
		for _, pair := range split(inner(l, 2), ",") {
			t.Names = append(t.Names, pair[0].Text)
			t.List = append(t.List, reckonType(pair[2:]))
		}
		return t
	}
	return api.Type{Kind: map[string]api.TypeKind{"any": 1, "null": 2, "bool": 3, "num": 4, "int": 5, "float": 6, "text": 7, "bytes": 8}[l[0].Text]}
}

// within are e and all mappings in it, each with how deep it stands.
func within(e api.Expr, depth int) (all []api.Expr, deepest int) {
	all, deepest = []api.Expr{e}, depth
	for _, x := range e.List {
		l, d := within(x, depth+1)
		all, deepest = append(all, l...), max(deepest, d)
	}
	return all, deepest
}

// reckonCheck is P14.1, word by word.
func reckonCheck(e api.Expr) api.Errno {
	all, deepest := within(e, 1)
	limit := deepest > 16 || len(all) > 512
	for _, x := range all {
		zero := api.Expr{Op: x.Op, Name: x.Name, Names: append([]string(nil), x.Names...), Value: bareValue(x.Value)}
		count, names := -1, append([]string{x.Name}, x.Names...)
		switch x.Op {
		case api.OpId, api.OpToText, api.OpToNum, api.OpSum, api.OpCount:
			count = 0
		case api.OpGet, api.OpTag:
			count, zero.Name = 0, ""
		case api.OpRecord, api.OpCase:
			count, zero.Names = len(x.Names), nil
		case api.OpMap:
			count = 1
		case api.OpPipe:
			count = max(2, len(x.List))
		case api.OpConst:
			count, zero.Value = 0, api.Value{}
			scalar := x.Value.Kind == api.KindNull || x.Value.Kind == api.KindBool || x.Value.Kind == api.KindNum || x.Value.Kind == api.KindText
			if !scalar || value.Check(x.Value) == api.ErrValueForm {
				return api.ErrLangForm
			}
		}
		if len(x.List) != count || !reflect.DeepEqual(zero, api.Expr{Op: x.Op}) {
			return api.ErrLangForm
		}
		for i, name := range names {
			if strings.ToValidUTF8(name, "") != name || i > 0 && slices.Contains(names[1:i], name) {
				return api.ErrLangForm
			}
			limit = limit || len(name) > 64
		}
		limit = limit || len(x.Names) > 256 || len(x.Value.Text) > 4096
	}
	if limit {
		return api.ErrLimit
	}
	return api.OK
}

// hasNoNumber tells whether a number among the tokens is none.
func hasNoNumber(l []api.Token) bool {
	return slices.ContainsFunc(l, func(t api.Token) bool {
		_, e := num.Parse(t.Text)
		return t.Word == api.WordNum && e != api.OK
	})
}

// reckonParse is P14.2.
func reckonParse(r rules, text string) (api.Expr, api.Errno, int) {
	l, e, at := lex.Scan(text)
	if e != api.OK {
		return api.Expr{}, e, at
	}
	if at := r.firstWrong(text, l); at >= 0 {
		return api.Expr{}, api.ErrLangForm, at
	}
	m := reckonExpr(l)
	if hasNoNumber(l) || reckonCheck(m) != api.OK {
		return api.Expr{}, api.ErrLimit, 0
	}
	return m, api.OK, 0
}

// reckonParseType is P14.4.
func reckonParseType(r rules, text string) (api.Type, api.Errno, int) {
	l, e, at := lex.Scan(text)
	if e != api.OK {
		return api.Type{}, e, at
	}
	if at := r.firstWrong(text, l); at >= 0 {
		return api.Type{}, api.ErrLangForm, at
	}
	t := reckonType(l)
	if types.Check(t) != api.OK {
		return api.Type{}, api.ErrLimit, 0
	}
	return t, api.OK, 0
}

// words are the tokens of a text, as they are printed.
type words []string

// joined is P13.2's text of them, within its limits.
func (w words) joined() (string, api.Errno) {
	if s := strings.Join(w, " "); len(w) <= 1024 && len(s) <= 4096 {
		return s, api.OK
	}
	return "", api.ErrLimit
}

func quoted(s string) string {
	s = strings.NewReplacer(`\`, `\\`, `"`, `\"`).Replace(s)
	for c := range 32 {
		s = strings.ReplaceAll(s, string(rune(c)), fmt.Sprintf(`\u%04x`, c))
	}
	return `"` + s + `"`
}

func reckonName(s string) string {
	if regexp.MustCompile(`^[A-Za-z_][A-Za-z_0-9]*$`).MatchString(s) {
		return s
	}
	return quoted(s)
}

// reckonNamed are the words from `{` to `}`.
func reckonNamed(names []string, mark string, items []words) words {
	w := words{"{"}
	for i, name := range names {
		w = append(append(w, reckonName(name), mark), items[i]...)
		w = append(w, ",")
	}
	if len(names) > 0 {
		w = w[:len(w)-1]
	}
	return append(w, "}")
}

// reckonWords are those of a mapping; they stand in brackets, if it is an OpPipe in one.
func reckonWords(e api.Expr, inPipe bool) words {
	var items []words
	for _, x := range e.List {
		items = append(items, reckonWords(x, e.Op == api.OpPipe))
	}
	switch e.Op {
	case api.OpGet:
		return words{".", reckonName(e.Name)}
	case api.OpTag:
		return words{"tag", reckonName(e.Name)}
	case api.OpRecord:
		return reckonNamed(e.Names, "=", items)
	case api.OpCase:
		return append(words{"case"}, reckonNamed(e.Names, "=", items)...)
	case api.OpMap:
		return append(append(words{"["}, items[0]...), "]")
	case api.OpConst:
		switch e.Value.Kind {
		case api.KindNull:
			return words{"const", "null"}
		case api.KindBool:
			return words{"const", fmt.Sprint(e.Value.Flag)}
		case api.KindText:
			return words{"const", quoted(e.Value.Text)}
		}
		s, _ := num.Print(e.Value.Num)
		return words{"const", s}
	case api.OpPipe:
		w := items[0]
		for _, x := range items[1:] {
			w = append(append(w, ";"), x...)
		}
		if inPipe {
			w = append(append(words{"("}, w...), ")")
		}
		return w
	}
	return words{map[api.Op]string{1: "id", 8: "totext", 9: "tonum", 10: "sum", 11: "count"}[e.Op]}
}

// reckonTypeWords are those of a type.
func reckonTypeWords(t api.Type) words {
	var items []words
	for _, x := range t.List {
		items = append(items, reckonTypeWords(x))
	}
	switch t.Kind {
	case api.TypeList:
		return append(append(words{"list", "("}, items[0]...), ")")
	case api.TypeRecord:
		return append(words{"record"}, reckonNamed(t.Names, ":", items)...)
	case api.TypeUnion:
		return append(words{"union"}, reckonNamed(t.Names, ":", items)...)
	}
	return words{map[api.TypeKind]string{1: "any", 2: "null", 3: "bool", 4: "num", 5: "int", 6: "float", 7: "text", 8: "bytes"}[t.Kind]}
}

// ask holds Parse and ParseType of a text against the reckoning, and tells what both answered.
func ask(t *testing.T, s string) (api.Errno, api.Errno) {
	t.Helper()
	m, e, at := lang.Parse(s)
	if want, wantE, wantAt := reckonParse(mappingRules, s); !sameExpr(m, want) || e != wantE || at != wantAt {
		t.Errorf("P14.2: Parse(%s) = %s, %d, %d, want %s, %d, %d", short(s), short(fmt.Sprint(m)), e, at, short(fmt.Sprint(want)), wantE, wantAt)
	}
	x, f, at := lang.ParseType(s)
	if want, wantE, wantAt := reckonParseType(typeRules, s); !sameType(x, want) || f != wantE || at != wantAt {
		t.Errorf("P14.4: ParseType(%s) = %s, %d, %d, want %s, %d, %d", short(s), short(fmt.Sprint(x)), f, at, short(fmt.Sprint(want)), wantE, wantAt)
	}
	return e, f
}

// askExpr holds Check and Print of a struct against the reckoning.
func askExpr(t *testing.T, m api.Expr) (string, api.Errno) {
	t.Helper()
	want := reckonCheck(m)
	if e := lang.Check(m); e != want {
		t.Errorf("P14.1: Check(%s) = %d, want %d", short(fmt.Sprint(m)), e, want)
	}
	text := ""
	if want == api.OK {
		text, want = reckonWords(m, false).joined()
	}
	s, e := lang.Print(m)
	if s != text || e != want {
		t.Errorf("P14.3: Print(%s) = %s, %d, want %s, %d", short(fmt.Sprint(m)), short(s), e, short(text), want)
	}
	return s, e
}

// askType holds PrintType of a struct against the reckoning.
func askType(t *testing.T, x api.Type) (string, api.Errno) {
	t.Helper()
	text, want := "", types.Check(x)
	if want == api.OK {
		text, want = reckonTypeWords(x).joined()
	}
	s, e := lang.PrintType(x)
	if s != text || e != want {
		t.Errorf("P14.5: PrintType(%s) = %s, %d, want %s, %d", short(fmt.Sprint(x)), short(s), e, short(text), want)
	}
	return s, e
}

// The reckoning itself, where it can be said plainly.
func TestReckoning(t *testing.T) {
	r := mappingRules
	for s, want := range map[string]int{"id": -1, "": 0, "id;": 3, "{a=id,a": 6, "{a=id,a=id": 6, "{a={a=id},": 10, "(((": 3, "id)": 2, "id id": 3, "{a=id,b={b=id},b": 15, "{a=id,b={b=id},c": 16} {
		l, _, _ := lex.Scan(s)
		if at := r.firstWrong(s, l); at != want {
			t.Errorf("the first wrong token of %s is at %d, want %d", s, at, want)
		}
	}
}
