package check_test

import (
	"fmt"
	"reflect"
	"slices"
	"strings"
	"testing"

	"calamus/api"
	"calamus/check"
	"calamus/lang"
)

func step(op api.Op) api.Expr       { return api.Expr{Op: op} }
func get(name string) api.Expr      { return api.Expr{Op: api.OpGet, Name: name} }
func tag(name string) api.Expr      { return api.Expr{Op: api.OpTag, Name: name} }
func mapOf(e api.Expr) api.Expr     { return api.Expr{Op: api.OpMap, List: []api.Expr{e}} }
func pipe(l ...api.Expr) api.Expr   { return api.Expr{Op: api.OpPipe, List: l} }
func constant(v api.Value) api.Expr { return api.Expr{Op: api.OpConst, Value: v} }
func kind(k api.TypeKind) api.Type  { return api.Type{Kind: k} }
func listOf(t api.Type) api.Type    { return api.Type{Kind: api.TypeList, List: []api.Type{t}} }

// record, cases, recordOf and unionOf take their names with a blank between.
func record(names string, l ...api.Expr) api.Expr {
	return api.Expr{Op: api.OpRecord, Names: strings.Fields(names), List: l}
}

func cases(names string, l ...api.Expr) api.Expr {
	return api.Expr{Op: api.OpCase, Names: strings.Fields(names), List: l}
}

func recordOf(names string, l ...api.Type) api.Type {
	return api.Type{Kind: api.TypeRecord, Names: strings.Fields(names), List: l}
}

func unionOf(names string, l ...api.Type) api.Type {
	return api.Type{Kind: api.TypeUnion, Names: strings.Fields(names), List: l}
}

var (
	id, toText, toNum, sum, count = step(api.OpId), step(api.OpToText), step(api.OpToNum), step(api.OpSum), step(api.OpCount)

	anyType, nullType, boolType, numType = kind(api.TypeAny), kind(api.TypeNull), kind(api.TypeBool), kind(api.TypeNum)

	intType, floatType, textType, bytesType = kind(api.TypeInt), kind(api.TypeFloat), kind(api.TypeText), kind(api.TypeBytes)
)

// plainTypes are all types without parts.
func plainTypes() []api.Type {
	return []api.Type{anyType, nullType, boolType, numType, intType, floatType, textType, bytesType}
}

// typeOf and mappingOf are what stands in a text.
func typeOf(t *testing.T, s string) api.Type {
	t.Helper()
	x, e, at := lang.ParseType(s)
	if e != api.OK {
		t.Fatalf("ParseType(%s) = %d at %d", s, e, at)
	}
	return x
}

func mappingOf(t *testing.T, s string) api.Expr {
	t.Helper()
	x, e, at := lang.Parse(s)
	if e != api.OK {
		t.Fatalf("Parse(%s) = %d at %d", s, e, at)
	}
	return x
}

// sameType tells whether two types are built alike; lists without elements are alike, nil or not.
func sameType(a, b api.Type) bool {
	return a.Kind == b.Kind && slices.Equal(a.Names, b.Names) && slices.EqualFunc(a.List, b.List, sameType)
}

// short is how x is told, or the two ends of that, so that a fault can be read.
func short(x any) string {
	s := fmt.Sprint(x)
	switch y := x.(type) {
	case api.Type:
		if p, e := lang.PrintType(y); e == api.OK {
			s = p
		}
	case api.Expr:
		if p, e := lang.Print(y); e == api.OK {
			s = p
		}
	}
	if len(s) > 300 {
		return fmt.Sprintf("%s .. %s (%d bytes)", s[:200], s[len(s)-60:], len(s))
	}
	return s
}

// wantMade asks Infer for the type that e makes of x, and for Lossless.
func wantMade(t *testing.T, x api.Type, e api.Expr, want api.Type, lossless bool) {
	t.Helper()
	if got, bad := check.Infer(x, e); !sameType(got.Type, want) || got.Lossless != lossless || bad != api.OK {
		t.Errorf("P15.1: Infer(%s, %s) = %s, %v, %d, want %s, %v", short(x), short(e), short(got.Type), got.Lossless, bad, short(want), lossless)
	}
}

// wantRefused asks Infer for an error.
func wantRefused(t *testing.T, x api.Type, e api.Expr, want api.Errno) {
	t.Helper()
	if got, bad := check.Infer(x, e); !reflect.DeepEqual(got, api.Typed{}) || bad != want {
		t.Errorf("P15.1: Infer(%s, %s) = %s, %v, %d, want %d", short(x), short(e), short(got.Type), got.Lossless, bad, want)
	}
}

// row is what Infer is to answer of two texts: a type, with `!` behind it, if it is lossless, or nothing, if the mapping does not fit.
type row struct{ in, mapping, want string }

func wantRows(t *testing.T, rows []row) {
	t.Helper()
	for _, x := range rows {
		in, e := typeOf(t, x.in), mappingOf(t, x.mapping)
		if x.want == "" {
			wantRefused(t, in, e, api.ErrCheckType)
			continue
		}
		made, lossless := strings.CutSuffix(x.want, "!")
		wantMade(t, in, e, typeOf(t, made), lossless)
	}
}

// The examples of the chapter's table.
func TestExamples(t *testing.T) {
	wantRows(t, []row{
		{"record{a:text,b:num}", ".b ; totext", "text"},
		{"record{a:text,b:num}", "{x = .b; totext, y = .a}", "record{x:text,y:text}!"},
		{"list(text)", "[tonum] ; sum", "num"},
		{"union{a:int,b:null}", "case {a = tag x, b = tag y}", "union{x:int,y:null}!"},
		{"union{a:int,b:int}", "case {a = tag x, b = tag x}", "union{x:int}"},
		{"int", ".a", ""},
		{"union{a:int,b:null}", "case {a = id}", ""},
	})
}

// P15.1: types.Check's error of t comes first, then lang.Check's of e, then what the table tells.
func TestChecked(t *testing.T) {
	noTypes := []api.Type{{}, kind(-1), kind(12), {Kind: api.TypeList}, recordOf("a a", nullType, nullType), recordOf("a"), unionOf("\xff", nullType), listOf(api.Type{}), {Kind: api.TypeInt, Names: []string{"a"}}}
	overTypes := []api.Type{recordOf(strings.Repeat("a", 65), nullType), wideOf(api.TypeRecord, 257, nullType), wideOf(api.TypeUnion, 257, nullType), under(16, intType), sizedOf(4097)}
	noExprs := []api.Expr{{}, step(-1), step(13), {Op: api.OpMap}, pipe(id), pipe(id, api.Expr{}), get("\xff"), record("a a", id, id), cases("a"), {Op: api.OpId, Name: "a"}, {Op: api.OpConst}, constant(list()), constant(raw("a")), mapOf(step(99))}
	overExprs := []api.Expr{get(strings.Repeat("a", 65)), tag(strings.Repeat("a", 65)), within(16, id), pipe(slices.Repeat([]api.Expr{id}, 512)...), constant(text(strings.Repeat("a", 4097)))}
	// In each row all types are refused alike, and all mappings; the first that is not OK is told.
	for _, x := range []struct {
		types []api.Type
		bad   api.Errno
	}{{[]api.Type{intType}, api.OK}, {noTypes, api.ErrTypeForm}, {overTypes, api.ErrLimit}} {
		for _, y := range []struct {
			exprs []api.Expr
			bad   api.Errno
		}{{[]api.Expr{get("a"), mapOf(id), cases(""), sum, count}, api.ErrCheckType}, {noExprs, api.ErrLangForm}, {overExprs, api.ErrLimit}} {
			want := x.bad
			if want == api.OK {
				want = y.bad
			}
			for _, a := range x.types {
				for _, e := range y.exprs {
					wantRefused(t, a, e, want)
				}
			}
		}
		if x.bad != api.OK {
			for _, a := range x.types {
				wantRefused(t, a, id, x.bad)
			}
		}
	}
	wantRefused(t, intType, pipe(get("a"), step(13)), api.ErrLangForm) // ahead of what does not fit, wherever it stands
	wantRefused(t, intType, pipe(get("a"), get(strings.Repeat("a", 65))), api.ErrLimit)
	wantRefused(t, unionOf(""), cases("a", api.Expr{}), api.ErrLangForm) // also where it is not gone through
	wantRefused(t, unionOf(""), cases("a", tag(strings.Repeat("a", 65))), api.ErrLimit)
}
