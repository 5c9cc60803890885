package lang_test

import (
	"fmt"
	"reflect"
	"strings"
	"testing"

	"calamus/api"
	"calamus/lang"
)

func step(op api.Op) api.Expr           { return api.Expr{Op: op} }
func get(name string) api.Expr          { return api.Expr{Op: api.OpGet, Name: name} }
func tag(name string) api.Expr          { return api.Expr{Op: api.OpTag, Name: name} }
func mapOf(e api.Expr) api.Expr         { return api.Expr{Op: api.OpMap, List: []api.Expr{e}} }
func pipe(l ...api.Expr) api.Expr       { return api.Expr{Op: api.OpPipe, List: l} }
func constant(v api.Value) api.Expr     { return api.Expr{Op: api.OpConst, Value: v} }
func plainType(k api.TypeKind) api.Type { return api.Type{Kind: k} }
func listType(t api.Type) api.Type      { return api.Type{Kind: api.TypeList, List: []api.Type{t}} }

// record, cases, recordType and unionType take their names with a blank between.
func record(names string, l ...api.Expr) api.Expr {
	return api.Expr{Op: api.OpRecord, Names: strings.Fields(names), List: l}
}

func cases(names string, l ...api.Expr) api.Expr {
	return api.Expr{Op: api.OpCase, Names: strings.Fields(names), List: l}
}

func recordType(names string, l ...api.Type) api.Type {
	return api.Type{Kind: api.TypeRecord, Names: strings.Fields(names), List: l}
}

func unionType(names string, l ...api.Type) api.Type {
	return api.Type{Kind: api.TypeUnion, Names: strings.Fields(names), List: l}
}

func text(s string) api.Value { return api.Value{Kind: api.KindText, Text: s} }
func flag(f bool) api.Value   { return api.Value{Kind: api.KindBool, Flag: f} }

func number(neg bool, digits string, exp int) api.Value {
	return api.Value{Kind: api.KindNum, Num: api.Num{Neg: neg, Digits: digits, Exp: exp}}
}

var (
	null = api.Value{Kind: api.KindNull}
	one  = number(false, "1", 0)

	id, toText, toNum, sum, count = step(api.OpId), step(api.OpToText), step(api.OpToNum), step(api.OpSum), step(api.OpCount)

	anyType, nullType, intType, textType = plainType(api.TypeAny), plainType(api.TypeNull), plainType(api.TypeInt), plainType(api.TypeText)
)

// sameExpr and sameType tell whether two are built alike: a list without elements may be nil or not.
func sameExpr(a, b api.Expr) bool {
	return fmt.Sprintf("%#v", bareExpr(a)) == fmt.Sprintf("%#v", bareExpr(b))
}

func sameType(a, b api.Type) bool { return reflect.DeepEqual(bareType(a), bareType(b)) }

// bareExpr and bareType are copies whose lists without elements are nil.
func bareExpr(e api.Expr) api.Expr {
	e.Names = append([]string(nil), e.Names...)
	e.Value = bareValue(e.Value)
	var l []api.Expr
	for _, x := range e.List {
		l = append(l, bareExpr(x))
	}
	e.List = l
	return e
}

func bareValue(v api.Value) api.Value {
	v.Names = append([]string(nil), v.Names...)
	var l []api.Value
	for _, x := range v.List {
		l = append(l, bareValue(x))
	}
	v.List = l
	return v
}

func bareType(t api.Type) api.Type {
	t.Names = append([]string(nil), t.Names...)
	var l []api.Type
	for _, x := range t.List {
		l = append(l, bareType(x))
	}
	t.List = l
	return t
}

// short is s, or its two ends, so that a fault can be read.
func short(s string) string {
	if len(s) > 100 {
		return fmt.Sprintf("%q .. %q (%d bytes)", s[:60], s[len(s)-20:], len(s))
	}
	return fmt.Sprintf("%q", s)
}

// wantMapping asks Parse for the mapping of s, and Print for its text.
func wantMapping(t *testing.T, s string, want api.Expr, printed string) {
	t.Helper()
	if m, e, at := lang.Parse(s); !sameExpr(m, want) || e != api.OK || at != 0 {
		t.Errorf("P14.2: Parse(%s) = %s, %d, %d, want %s", short(s), short(fmt.Sprint(m)), e, at, short(fmt.Sprint(want)))
	}
	if got, e := lang.Print(want); got != printed || e != api.OK {
		t.Errorf("P14.3: Print(%s) = %s, %d, want %s", short(fmt.Sprint(want)), short(got), e, short(printed))
	}
}

// wantNoMapping asks Parse for an error and its place.
func wantNoMapping(t *testing.T, s string, want api.Errno, wantAt int) {
	t.Helper()
	if m, e, at := lang.Parse(s); !reflect.DeepEqual(m, api.Expr{}) || e != want || at != wantAt {
		t.Errorf("P14.2: Parse(%s) = %s, %d, %d, want %d, %d", short(s), short(fmt.Sprint(m)), e, at, want, wantAt)
	}
}

// wantUnprinted asks Print for an error.
func wantUnprinted(t *testing.T, m api.Expr, want api.Errno) {
	t.Helper()
	if s, e := lang.Print(m); s != "" || e != want {
		t.Errorf("P14.3: Print(%s) = %s, %d, want %d", short(fmt.Sprint(m)), short(s), e, want)
	}
}

// wantType asks ParseType for the type of s, and PrintType for its text.
func wantType(t *testing.T, s string, want api.Type, printed string) {
	t.Helper()
	if x, e, at := lang.ParseType(s); !sameType(x, want) || e != api.OK || at != 0 {
		t.Errorf("P14.4: ParseType(%s) = %s, %d, %d, want %s", short(s), short(fmt.Sprint(x)), e, at, short(fmt.Sprint(want)))
	}
	if got, e := lang.PrintType(want); got != printed || e != api.OK {
		t.Errorf("P14.5: PrintType(%s) = %s, %d, want %s", short(fmt.Sprint(want)), short(got), e, short(printed))
	}
}

// wantNoType asks ParseType for an error and its place.
func wantNoType(t *testing.T, s string, want api.Errno, wantAt int) {
	t.Helper()
	if x, e, at := lang.ParseType(s); !reflect.DeepEqual(x, api.Type{}) || e != want || at != wantAt {
		t.Errorf("P14.4: ParseType(%s) = %s, %d, %d, want %d, %d", short(s), short(fmt.Sprint(x)), e, at, want, wantAt)
	}
}

// wantTypeUnprinted asks PrintType for an error.
func wantTypeUnprinted(t *testing.T, x api.Type, want api.Errno) {
	t.Helper()
	if s, e := lang.PrintType(x); s != "" || e != want {
		t.Errorf("P14.5: PrintType(%s) = %s, %d, want %d", short(fmt.Sprint(x)), short(s), e, want)
	}
}

func TestExamples(t *testing.T) {
	wantMapping(t, ".a; [tonum]; sum", pipe(get("a"), mapOf(toNum), sum), ". a ; [ tonum ] ; sum")
	named := api.Expr{Op: api.OpRecord, Names: []string{"x", "y z"}, List: []api.Expr{get("a"), constant(text("q"))}}
	wantMapping(t, `{x = .a, "y z" = const "q"}`, named, `{ x = . a , "y z" = const "q" }`)
	wantMapping(t, "(id; id); id", pipe(pipe(id, id), id), "( id ; id ) ; id")
	wantNoMapping(t, "", api.ErrLangForm, 0)
	wantNoMapping(t, "id;", api.ErrLangForm, 3)
	wantNoMapping(t, ".a b", api.ErrLangForm, 3)
	wantNoMapping(t, "{a=id,a=id}", api.ErrLangForm, 6)
	wantNoMapping(t, "$", api.ErrLexForm, 0)
	wantType(t, "record{id:int,tags:list(text)}", recordType("id tags", intType, listType(textType)), "record { id : int , tags : list ( text ) }")
	wantNoType(t, "list", api.ErrLangForm, 4)
	wantNoType(t, "int int", api.ErrLangForm, 4)
}

// P14.2, P14.3: each line of the tables, as the chapter writes it.
func TestSteps(t *testing.T) {
	wantMapping(t, "id", id, "id")
	wantMapping(t, "totext", toText, "totext")
	wantMapping(t, "tonum", toNum, "tonum")
	wantMapping(t, "sum", sum, "sum")
	wantMapping(t, "count", count, "count")
	wantMapping(t, ".a", get("a"), ". a")
	wantMapping(t, `."a"`, get("a"), ". a")
	wantMapping(t, `."a b"`, get("a b"), `. "a b"`)
	wantMapping(t, `.""`, get(""), `. ""`)
	wantMapping(t, "{}", record(""), "{ }")
	wantMapping(t, "{a=id}", record("a", id), "{ a = id }")
	wantMapping(t, "{a=id,b=.a;.b,c={a=id}}", record("a b c", id, pipe(get("a"), get("b")), record("a", id)), "{ a = id , b = . a ; . b , c = { a = id } }")
	wantMapping(t, "[id]", mapOf(id), "[ id ]")
	wantMapping(t, "[[id;sum]]", mapOf(mapOf(pipe(id, sum))), "[ [ id ; sum ] ]")
	wantMapping(t, "tag a", tag("a"), "tag a")
	wantMapping(t, `tag"\u0041"`, tag("A"), "tag A")
	wantMapping(t, `tag "\u00e9"`, tag("\u00e9"), "tag \"\u00e9\"")
	wantMapping(t, "case{}", cases(""), "case { }")
	wantMapping(t, "case { a = id, b = tag b; id }", cases("a b", id, pipe(tag("b"), id)), "case { a = id , b = tag b ; id }")
	wantMapping(t, "const 1", constant(one), "const 1")
	wantMapping(t, "const-1.50e1", constant(number(true, "15", 0)), "const -15")
	wantMapping(t, "const -0.0", constant(number(false, "0", 0)), "const 0")
	wantMapping(t, "const 1E-400", constant(number(false, "1", -400)), "const 1e-400")
	wantMapping(t, `const""`, constant(text("")), `const ""`)
	wantMapping(t, `const "a\u0000\"\\"`, constant(text("a\x00\"\\")), `const "a\u0000\"\\"`)
	wantMapping(t, "const null", constant(null), "const null")
	wantMapping(t, "const true", constant(flag(true)), "const true")
	wantMapping(t, "const false", constant(flag(false)), "const false")
	wantMapping(t, `const "null"`, constant(text("null")), `const "null"`)
	wantMapping(t, `const "1"`, constant(text("1")), `const "1"`)
	wantMapping(t, "(id)", id, "id")
	wantMapping(t, "((.a))", get("a"), ". a")
	wantMapping(t, "(id;sum)", pipe(id, sum), "id ; sum")
	wantMapping(t, "((id;sum))", pipe(id, sum), "id ; sum")
	wantMapping(t, "[(id;sum)]", mapOf(pipe(id, sum)), "[ id ; sum ]")
	wantMapping(t, "{a=(id;sum)}", record("a", pipe(id, sum)), "{ a = id ; sum }")
	wantMapping(t, "id;(sum)", pipe(id, sum), "id ; sum")
	wantMapping(t, "id;((sum;id))", pipe(id, pipe(sum, id)), "id ; ( sum ; id )")
	wantMapping(t, "((id;id);sum);id", pipe(pipe(pipe(id, id), sum), id), "( ( id ; id ) ; sum ) ; id")
	wantMapping(t, " id # a ; b\n\t;\r\nsum#", pipe(id, sum), "id ; sum")
}

// P14.4, P14.5: the same of types.
func TestTypes(t *testing.T) {
	for k, s := range map[api.TypeKind]string{api.TypeAny: "any", api.TypeNull: "null", api.TypeBool: "bool", api.TypeNum: "num", api.TypeInt: "int", api.TypeFloat: "float", api.TypeText: "text", api.TypeBytes: "bytes"} {
		wantType(t, s, plainType(k), s)
		wantType(t, "list(list("+s+"))", listType(listType(plainType(k))), "list ( list ( "+s+" ) )")
		wantType(t, "union{"+s+":"+s+"}", unionType(s, plainType(k)), "union { "+s+" : "+s+" }")
	}
	wantType(t, "record{}", recordType(""), "record { }")
	wantType(t, "union { }# x", unionType(""), "union { }")
	wantType(t, `record{"":any,"a b":null,"c":int}`, api.Type{Kind: api.TypeRecord, Names: []string{"", "a b", "c"}, List: []api.Type{anyType, nullType, intType}}, `record { "" : any , "a b" : null , c : int }`)
	wantType(t, "union{a:record{a:int},b:record{a:int}}", unionType("a b", recordType("a", intType), recordType("a", intType)), "union { a : record { a : int } , b : record { a : int } }")
	wantNoType(t, "(int)", api.ErrLangForm, 0)
	wantNoType(t, "list(int;int)", api.ErrLangForm, 8)
	wantNoType(t, "record{a=int}", api.ErrLangForm, 8)
}
