package eval_test

import (
	"strconv"
	"strings"
	"testing"

	"calamus/api"
)

// ofKinds are values of each Kind, in the order of Kinds.
func ofKinds() []api.Value {
	return []api.Value{null, flag(true), number("15", -1), float(0x3ff8000000000000), text("1.5"), raw("1.5"), list(number("1", 0)), recordOf("a", text("x")), tagged("a", text("x"))}
}

// P16.1: what each Op takes, by its Kind, row by row of the chapter's table.
func TestOpsOfKinds(t *testing.T) {
	takes := func(e api.Expr, made map[api.Kind]api.Value) {
		t.Helper()
		for _, v := range ofKinds() {
			if want, ok := made[v.Kind]; ok {
				wantMade(t, e, v, want)
			} else {
				wantRefused(t, e, v, api.ErrEvalType)
			}
		}
	}
	takes(get("a"), map[api.Kind]api.Value{api.KindRecord: text("x")})
	takes(mapOf(tag("b")), map[api.Kind]api.Value{api.KindList: list(tagged("b", number("1", 0)))})
	takes(cases("a b", tag("b"), id), map[api.Kind]api.Value{api.KindTag: tagged("b", text("x"))})
	takes(toText, map[api.Kind]api.Value{api.KindBool: text("true"), api.KindNum: text("1.5"), api.KindText: text("1.5")})
	takes(toNum, map[api.Kind]api.Value{api.KindNum: number("15", -1), api.KindText: number("15", -1)})
	takes(sum, map[api.Kind]api.Value{api.KindList: number("1", 0)})
	takes(count, map[api.Kind]api.Value{api.KindList: number("1", 0)})
	takes(get("b"), nil)
	takes(cases(""), nil)
	takes(cases("b", id), nil)
	for _, v := range ofKinds() {
		wantMade(t, id, v, v)
		wantMade(t, tag("q"), v, tagged("q", v))
		wantMade(t, tag(""), v, tagged("", v))
		wantMade(t, record(""), v, recordOf(""))
		wantMade(t, record("x y", id, tag("q")), v, recordOf("x y", v, tagged("q", v)))
		for _, c := range []api.Value{null, flag(false), flag(true), number("0", 0), below("25", -3), text(""), text("\u00e9")} {
			wantMade(t, constant(c), v, c)
		}
		wantMade(t, pipe(tag("q"), cases("q", id)), v, v)
		wantMade(t, pipe(record("x", id), get("x")), v, v)
		wantMade(t, mapOf(id), list(v, null, v), list(v, null, v))
	}
}

// P16.1: OpGet.
func TestGet(t *testing.T) {
	wantRows(t, []row{
		{".a", `{"a":1,"b":2}`, `1`},
		{".b", `{"a":1,"b":2}`, `2`},
		{".c", `{"a":1,"b":2}`, "!type"},
		{".A", `{"a":1}`, "!type"},
		{`.""`, `{"a":1}`, "!type"},
		{`.""`, `{"":1}`, `1`},
		{`."a b"`, `{"a b":[1]}`, `[1]`},
		{".a", `{}`, "!type"},
		{".a;.a", `{"a":{"a":1,"b":2},"b":3}`, `1`},
		{".a;.b", `{"a":{"a":1,"b":2},"b":3}`, `2`},
		{".b;.a", `{"a":{"a":1,"b":2},"b":3}`, "!type"},
		{".a", `[{"a":1}]`, "!type"},
		{"[.a]", `[{"a":1},{"b":1,"a":2}]`, `[1,2]`},
		{"[.a]", `[{"a":1},{"b":2}]`, "!type"},
		{".a", `{"$tag":["a",1]}`, "!type"},
		{".a", `{"a":{"$float":"7ff0000000000001"}}`, `{"$float":"7ff0000000000001"}`},
	})
	names := manyNames(0, 256)
	v := api.Value{Kind: api.KindRecord, Names: names}
	for i := range names {
		v.List = append(v.List, text(strconv.Itoa(i)))
	}
	for i, name := range names {
		wantMade(t, get(name), v, text(strconv.Itoa(i)))
	}
	wantRefused(t, get("n256"), v, api.ErrEvalType)
}

// P16.1: OpRecord.
func TestRecord(t *testing.T) {
	wantRows(t, []row{
		{"{}", `null`, `{}`},
		{"{}", `{"a":1}`, `{}`},
		{"{x=id}", `1`, `{"x":1}`},
		{"{b=id,a=id}", `1`, `{"b":1,"a":1}`},
		{"{x=.b,y=.a}", `{"a":1,"b":2}`, `{"x":2,"y":1}`},
		{"{a=.b,b=.a}", `{"a":1,"b":2}`, `{"a":2,"b":1}`},
		{"{x=.a,y=.a}", `{"a":[1]}`, `{"x":[1],"y":[1]}`},
		{"{x=.a,y=.c}", `{"a":1,"b":2}`, "!type"},
		{"{x={y={z=id}}}", `[]`, `{"x":{"y":{"z":[]}}}`},
		{"{n=count,s=sum,l=[totext]}", `[1,2.5]`, `{"n":2,"s":3.5,"l":["1","2.5"]}`},
		{`{""=id,"$"=const 1}`, `2`, `{"":2,"$":1}`},
		{"{x=tonum,y=id}", `"a"`, "!coerce"},
		{"{y=id,x=tonum}", `"1.0"`, `{"y":"1.0","x":1}`},
	})
}

// P16.1: OpMap.
func TestMap(t *testing.T) {
	wantRows(t, []row{
		{"[id]", `[]`, `[]`},
		{"[id]", `[1,"a",null,[]]`, `[1,"a",null,[]]`},
		{"[const 1]", `[1,"a",null,[]]`, `[1,1,1,1]`},
		{"[totext]", `[1,"a",true,false]`, `["1","a","true","false"]`},
		{"[totext]", `[1,"a",null,true]`, "!type"},
		{"[[tonum]]", `[["1","2"],[],["0.5"]]`, `[[1,2],[],[0.5]]`},
		{"[[tonum]]", `[["1","2"],"3"]`, "!type"},
		{"[[tonum]]", `[["1","2"],["b"]]`, "!coerce"},
		{"[sum];sum", `[[1,2],[],[0.5]]`, `3.5`},
		{"[count]", `[[1,2],[],[[]]]`, `[2,0,1]`},
		{"[count];count", `[[1,2],[],[[]]]`, `3`},
		{"[.a;tag t]", `[{"a":1},{"a":2,"b":3}]`, `[{"$tag":["t",1]},{"$tag":["t",2]}]`},
		{"[case{a=id,b=const 0}]", `[{"$tag":["a",1]},{"$tag":["b",2]},{"$tag":["a",3]}]`, `[1,0,3]`},
		{"[case{a=id,b=const 0}]", `[{"$tag":["a",1]},{"$tag":["c",2]}]`, "!type"},
		{"[sum]", `[]`, `[]`},
		{"[id]", `{"a":1}`, "!type"},
		{"[id]", `{"$tag":["a",[]]}`, "!type"},
	})
	long, numbers := list(), list()
	for i := range 256 {
		long.List = append(long.List, text(strconv.Itoa(i)))
		v := valueOf(t, strconv.Itoa(i))
		numbers.List = append(numbers.List, v)
	}
	wantMade(t, mapOf(toNum), long, numbers)
	wantMade(t, mapOf(toText), numbers, long)
	wantMade(t, pipe(mapOf(toNum), sum), long, number("3264", 1))
}

// P16.1: OpTag and OpCase.
func TestCase(t *testing.T) {
	wantRows(t, []row{
		{"tag a", `null`, `{"$tag":["a",null]}`},
		{"tag a;tag b", `null`, `{"$tag":["b",{"$tag":["a",null]}]}`},
		{"case{}", `{"$tag":["a",null]}`, "!type"},
		{"case{a=id}", `{"$tag":["a",[1]]}`, `[1]`},
		{"case{a=id}", `{"$tag":["b",1]}`, "!type"},
		{"case{a=id}", `{"$tag":["",1]}`, "!type"},
		{`case{""=id}`, `{"$tag":["",1]}`, `1`},
		{"case{a=tag b,b=tag a}", `{"$tag":["a",1]}`, `{"$tag":["b",1]}`},
		{"case{a=tag b,b=tag a}", `{"$tag":["b",1]}`, `{"$tag":["a",1]}`},
		{"case{a=case{b=id,c=const 0}}", `{"$tag":["a",{"$tag":["b",1]}]}`, `1`},
		{"case{a=case{b=id,c=const 0}}", `{"$tag":["a",{"$tag":["c",1]}]}`, `0`},
		{"case{a=case{b=id,c=const 0}}", `{"$tag":["b",{"$tag":["a",1]}]}`, "!type"},
		{"case{a=case{b=id,c=const 0}}", `{"$tag":["a",1]}`, "!type"},
		{"case{a=sum,b=count}", `{"$tag":["a",[1,2]]}`, `3`},
		{"case{a=sum,b=count}", `{"$tag":["b",[1,2]]}`, `2`},
		{"case{a=sum,b=count}", `{"$tag":["a",1]}`, "!type"},
		{"case{a=tonum,b=.q}", `{"$tag":["a","x"]}`, "!coerce"},
		{"case{a=id}", `{"a":1}`, "!type"},
		{"tag a;case{a=id}", `5`, `5`},
		{"tag a;case{b=id}", `5`, "!type"},
	})
	names := manyNames(0, 256)
	e := api.Expr{Op: api.OpCase, Names: names}
	for i := range names {
		e.List = append(e.List, constant(text(strconv.Itoa(i))))
	}
	for i, name := range names {
		wantMade(t, e, tagged(name, null), text(strconv.Itoa(i)))
	}
	wantRefused(t, e, tagged("n256", null), api.ErrEvalType)
}

// P16.1: OpToText is num.Print's text of a number.
func TestToText(t *testing.T) {
	wantRows(t, []row{
		{"totext", `true`, `"true"`},
		{"totext", `false`, `"false"`},
		{"totext", `0`, `"0"`},
		{"totext", `-0`, `"0"`},
		{"totext", `-12e2`, `"-1200"`},
		{"totext", `0.0015`, `"0.0015"`},
		{"totext", `1e20`, `"100000000000000000000"`},
		{"totext", `1e21`, `"1e21"`},
		{"totext", `-15e30`, `"-1.5e31"`},
		{"totext", `1e-400`, `"1e-400"`},
		{"totext", nines + `e400`, `"9.` + nines[1:] + `e439"`},
		{"totext", `-` + nines + `e-400`, `"-9.` + nines[1:] + `e-361"`},
		{"totext", `""`, `""`},
		{"totext", `"tru\u00e9"`, `"tru\u00e9"`},
		{"totext", `{"$float":"3ff0000000000000"}`, "!type"},
		{"totext", `{"$bytes":"61"}`, "!type"},
		{"totext", `[1]`, "!type"},
	})
}

// P16.1: OpToNum is num.Parse's number of a text, if there is one.
func TestToNum(t *testing.T) {
	wantRows(t, []row{
		{"tonum", `1.50`, `1.5`},
		{"tonum", `-0`, `0`},
		{"tonum", `"0"`, `0`},
		{"tonum", `"-0"`, `0`},
		{"tonum", `"1.50"`, `1.5`},
		{"tonum", `"-12E+02"`, `-1200`},
		{"tonum", `""`, "!coerce"},
		{"tonum", `"x"`, "!coerce"},
		{"tonum", `" 1"`, "!coerce"},
		{"tonum", `"1 "`, "!coerce"},
		{"tonum", `"+1"`, "!coerce"},
		{"tonum", `"01"`, "!coerce"},
		{"tonum", `".5"`, "!coerce"},
		{"tonum", `"1."`, "!coerce"},
		{"tonum", `"true"`, "!coerce"},
		{"tonum", `"1e400"`, `1e400`},
		{"tonum", `"1e401"`, "!coerce"},
		{"tonum", `"1e-400"`, `1e-400`},
		{"tonum", `"1e-401"`, "!coerce"},
		{"tonum", `"0e9999"`, `0`},
		{"tonum", `"` + nines + `"`, nines},
		{"tonum", `"` + nines + `0"`, nines + `0`},
		{"tonum", `"` + nines + `1"`, "!coerce"},
		{"tonum", `"0.` + strings.Repeat("0", 510) + `"`, `0`},
		{"tonum", `"0.` + strings.Repeat("0", 511) + `"`, "!coerce"},
		{"tonum", `true`, "!type"},
		{"tonum", `{"$float":"3ff0000000000000"}`, "!type"},
		{"tonum", `{"$bytes":"31"}`, "!type"},
		{"tonum", `["1"]`, "!type"},
		{"totext;tonum", `-0.025`, `-0.025`},
		{"totext;tonum", `true`, "!coerce"},
	})
}

// P16.1: OpSum adds from the front; each sum on the way must be a number.
func TestSum(t *testing.T) {
	wantRows(t, []row{
		{"sum", `[]`, `0`},
		{"sum", `[5]`, `5`},
		{"sum", `[-5]`, `-5`},
		{"sum", `[0,0]`, `0`},
		{"sum", `[0.5,0.5]`, `1`},
		{"sum", `[1,-1]`, `0`},
		{"sum", `[1e-400]`, `1e-400`},
		{"sum", `[-` + nines + `e400]`, `-` + nines + `e400`},
		{"sum", `[1e400,1]`, "!coerce"},
		{"sum", `[1,1e400]`, "!coerce"},
		{"sum", `[1e400,-1e400,1]`, `1`},
		{"sum", `[1e400,1,-1e400]`, "!coerce"},
		{"sum", `[1,1e400,-1e400]`, "!coerce"},
		{"sum", `[1e400,9e400]`, "!coerce"},
		{"sum", `[1e400,8e400]`, `9e400`},
		{"sum", `[` + nines + `,1]`, `1e40`},
		{"sum", `[` + nines + `,2]`, "!coerce"},
		{"sum", `[` + nines + `,0.1]`, "!coerce"},
		{"sum", `[0,` + nines + `]`, nines},
		{"sum", `[` + nines + `,-` + nines + `,0.1]`, `0.1`},
		{"sum", `[1,null]`, "!type"},
		{"sum", `[1,"2"]`, "!type"},
		{"sum", `["1"]`, "!type"},
		{"sum", `[[1]]`, "!type"},
		{"sum", `[{"$float":"3ff0000000000000"}]`, "!type"},
		{"sum", `1`, "!type"},
		{"sum", `{"a":1}`, "!type"},
	})
}

// P16.1: OpCount, for each number of elements that a list may have.
func TestCount(t *testing.T) {
	for n := range 257 {
		want := valueOf(t, strconv.Itoa(n))
		wantMade(t, count, list(times(n, null)...), want)
		if n < 16 {
			wantMade(t, count, list(times(n, list(times(200, null)...))...), want) // not those within
		}
	}
	wantRows(t, []row{
		{"count", `[[1,2,3]]`, `1`},
		{"count", `{"a":1}`, "!type"},
		{"count", `"abc"`, "!type"},
		{"count", `{"$tag":["a",[1]]}`, "!type"},
	})
}

// P16.1: OpPipe.
func TestPipe(t *testing.T) {
	wantRows(t, []row{
		{"id;id", `1`, `1`},
		{"totext;tag a", `1`, `{"$tag":["a","1"]}`},
		{"tag a;totext", `1`, "!type"},
		{"const 1;const 2", `null`, `2`},
		{"(id;totext);(tag a;tag b)", `1`, `{"$tag":["b",{"$tag":["a","1"]}]}`},
		{".a;[tonum];sum;totext", `{"a":["1","2","3"]}`, `"6"`},
		{"{a=id};{b=id};.b;.a", `1`, `1`},
		{"{a=id};{b=id};.a", `1`, "!type"},
		{"sum;const 1", `null`, "!type"},
		{"tonum;const 1", `"x"`, "!coerce"},
	})
}
