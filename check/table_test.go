package check_test

import (
	"testing"

	"calamus/api"
)

// P15.1: which types each Op fits, row by row of the chapter's table.
func TestOpsOfPlainTypes(t *testing.T) {
	texts := map[api.TypeKind]bool{api.TypeBool: true, api.TypeNum: true, api.TypeInt: true, api.TypeText: true}
	for _, x := range append(plainTypes(), listOf(intType), listOf(numType), listOf(anyType), recordOf(""), recordOf("a", textType), recordOf("a b", textType, nullType), unionOf(""), unionOf("a", intType)) {
		wantMade(t, x, id, x, true)
		wantMade(t, x, tag("q"), unionOf("q", x), true)
		wantMade(t, x, tag(""), api.Type{Kind: api.TypeUnion, Names: []string{""}, List: []api.Type{x}}, true)
		wantMade(t, x, constant(null), nullType, x.Kind == api.TypeNull)
		wantMade(t, x, record(""), recordOf(""), x.Kind == api.TypeRecord && len(x.Names) == 0)
		if texts[x.Kind] {
			wantMade(t, x, toText, textType, true)
		} else {
			wantRefused(t, x, toText, api.ErrCheckType)
		}
		switch x.Kind {
		case api.TypeNum, api.TypeInt:
			wantMade(t, x, toNum, x, true)
		case api.TypeText:
			wantMade(t, x, toNum, numType, false)
		default:
			wantRefused(t, x, toNum, api.ErrCheckType)
		}
		if x.Kind == api.TypeList {
			wantMade(t, x, count, intType, false)
			wantMade(t, x, mapOf(id), x, true)
		} else {
			wantRefused(t, x, count, api.ErrCheckType)
			wantRefused(t, x, mapOf(id), api.ErrCheckType)
			wantRefused(t, x, sum, api.ErrCheckType)
		}
		if x.Kind != api.TypeRecord || len(x.Names) == 0 {
			wantRefused(t, x, get("a"), api.ErrCheckType)
		}
		if x.Kind != api.TypeUnion {
			wantRefused(t, x, cases(""), api.ErrCheckType)
			wantRefused(t, x, cases("a", id), api.ErrCheckType)
		}
	}
}

// P15.1: a list of num or int has a sum, no other.
func TestSum(t *testing.T) {
	for _, x := range append(plainTypes(), listOf(intType), recordOf(""), recordOf("a", intType), unionOf(""), unionOf("a", intType)) {
		if x.Kind == api.TypeNum || x.Kind == api.TypeInt {
			wantMade(t, listOf(x), sum, x, false)
		} else {
			wantRefused(t, listOf(x), sum, api.ErrCheckType)
		}
	}
}

// P15.1: OpGet.
func TestGet(t *testing.T) {
	wantRows(t, []row{
		{"record{a:int}", ".a", "int!"},
		{"record{a:int}", ".b", ""},
		{"record{a:int}", `.""`, ""},
		{`record{"":int}`, `.""`, "int!"},
		{"record{}", ".a", ""},
		{"record{a:int,b:text,c:list(null)}", ".a", "int"},
		{"record{a:int,b:text,c:list(null)}", ".b", "text"},
		{"record{a:int,b:text,c:list(null)}", ".c", "list(null)"},
		{"record{a:int,b:text,c:list(null)}", ".d", ""},
		{"record{a:null,b:null}", ".a", "null"},
		{"record{a:record{b:any}}", ".a;.b", "any!"},
		{"record{a:record{b:any,c:null}}", ".a;.b", "any"},
		{"record{a:record{b:any},c:null}", ".a;.b", "any"},
		{"record{a:int}", ".a;.a", ""},
		{"union{a:int}", ".a", ""},
		{"list(record{a:int})", ".a", ""},
		{"any", ".a", ""},
	})
}

// P15.1: OpConst, by its Value.
func TestConst(t *testing.T) {
	for _, x := range []struct{ mapping, want string }{
		{"const null", "null"}, {"const true", "bool"}, {"const false", "bool"}, {`const ""`, "text"}, {`const "1"`, "text"},
		{"const 0", "int"}, {"const -1", "int"}, {"const 1.0", "int"}, {"const 25e400", "int"}, {"const 1.5", "num"}, {"const -0.1", "num"}, {"const 1e-400", "num"}, {"const 10e-1", "int"}, {"const 12e-1", "num"},
	} {
		wantRows(t, []row{
			{"null", x.mapping, x.want + "!"}, {"any", x.mapping, x.want}, {"int", x.mapping, x.want}, {"bool", x.mapping, x.want}, {"record{}", x.mapping, x.want}, {"union{}", x.mapping, x.want},
			{"list(null)", "[" + x.mapping + "]", "list(" + x.want + ")!"}, {"list(text)", "[" + x.mapping + "]", "list(" + x.want + ")"},
			{"record{a:null}", x.mapping, x.want}, {"union{a:null}", x.mapping, x.want},
		})
	}
}

// P15.1: OpMap.
func TestMap(t *testing.T) {
	wantRows(t, []row{
		{"list(int)", "[totext]", "list(text)!"},
		{"list(text)", "[tonum]", "list(num)"},
		{"list(text)", "[{x=id,y=tonum}]", "list(record{x:text,y:num})"}, // apart, but not safe
		{"list(int)", "[tonum]", "list(int)!"},
		{"list(null)", "[tonum]", ""},
		{"list(any)", "[tag a]", "list(union{a:any})!"},
		{"list(list(text))", "[[totext]]", "list(list(text))!"},
		{"list(list(text))", "[[tonum]]", "list(list(num))"},
		{"list(list(text))", "[totext]", ""},
		{"list(list(int))", "[sum]", "list(int)"},
		{"list(list(int))", "[count]", "list(int)"},
		{"list(list(int))", "[sum];sum", "int"},
		{"list(union{})", "[case{}]", "list(union{})!"},
		{"list(record{a:int,b:int})", "[.a]", "list(int)"},
		{"list(record{a:int})", "[.a]", "list(int)!"},
		{"list(record{a:int,b:int})", "[{b=.b,a=.a}]", "list(record{b:int,a:int})!"},
		{"int", "[id]", ""},
		{"any", "[id]", ""},
		{"record{a:list(int)}", "[id]", ""},
	})
}

// P15.1: OpRecord, and when it is apart.
func TestRecord(t *testing.T) {
	wantRows(t, []row{
		{"int", "{}", "record{}"},
		{"null", "{}", "record{}"},
		{"record{}", "{}", "record{}!"},
		{"union{}", "{}", "record{}"},
		{"record{}", "{x=const 1}", "record{x:int}!"},
		{"record{a:null}", "{}", "record{}"},
		{"record{a:null}", "{x=const 1}", "record{x:int}"},
		{"int", "{x=id}", "record{x:int}!"},
		{"int", "{x=const 1,y=id}", "record{x:int,y:int}!"},
		{"int", "{y=id,x=const 1}", "record{y:int,x:int}!"},
		{"int", "{x=const 1}", "record{x:int}"},
		{"null", "{x=const 1}", "record{x:int}!"},
		{"int", "{x=id,y=.a}", ""},
		{"int", "{x=.a,y=id}", ""},
		{"text", "{x=id,y=tonum}", "record{x:text,y:num}"},
		{"text", "{x=tonum}", "record{x:num}"},
		{"list(int)", "{n=count,s=sum}", "record{n:int,s:int}"},
		{"list(int)", "{n=count,l=id}", "record{n:int,l:list(int)}!"},
		{"list(int)", "{s=sum,l=id}", "record{s:int,l:list(int)}"},
		{"record{a:int,b:text}", "{x=.a}", "record{x:int}"},
		{"record{a:int,b:text}", "{x=.a,y=.a}", "record{x:int,y:int}"},
		{"record{a:int,b:text}", "{x=.a,y=.b}", "record{x:int,y:text}!"},
		{"record{a:int,b:text}", "{x=.b,z=const null,y=.a,w=.a}", "record{x:text,z:null,y:int,w:int}!"},
		{"record{a:int,b:text,c:null}", "{x=.a,y=.b}", "record{x:int,y:text}"},
		{"record{a:int,b:text,c:null}", "{x=.a,y=.b,z=.c}", "record{x:int,y:text,z:null}!"},
		{"record{a:int,b:text,c:null}", "{x=.a,y=.b,z=const null}", "record{x:int,y:text,z:null}"},
		{"record{a:int,b:text}", "{x=.a;totext,y=.b;totext}", "record{x:text,y:text}!"},
		{"record{a:int,b:text}", "{x=.a;totext;id;tag q,y=.b}", "record{x:union{q:text},y:text}!"},
		{"record{a:int,b:text}", "{x=.a;totext,y=.b;tonum}", "record{x:text,y:num}"},
		{"record{a:int,b:text}", "{x=.a;totext,y=.b;tonum,z=.b}", "record{x:text,y:num,z:text}"},
		{"record{a:int,b:null}", "{x=.a,y=.b;const 1}", "record{x:int,y:int}!"},
		{"record{a:int,b:null}", "{x=.a,y=.b;tag q;const 1}", "record{x:int,y:int}"},
		{"record{a:int,b:null}", "{x=.a,y=.b;const 1;const 1}", "record{x:int,y:int}"},
		{"record{a:int,b:int}", "{x=.a,y=.b;const 1}", "record{x:int,y:int}"},
		{"record{a:int,b:int}", "{x=.a;const 1,y=.a,z=.b}", "record{x:int,y:int,z:int}!"},
		{"record{a:int,b:int}", "{x=.a,y=.a;const 1,z=.b;const 1,w=.b}", "record{x:int,y:int,z:int,w:int}!"},
		{"record{a:int,b:list(int)}", "{x=.a,y=.b;sum}", "record{x:int,y:int}"},
		{"record{a:int,b:list(int)}", "{x=.a,y=.b;[totext]}", "record{x:int,y:list(text)}!"},
		{"record{a:int,b:record{c:int}}", "{x=.a,y=.b;.c}", "record{x:int,y:int}!"},
		{"record{a:int,b:record{c:int,d:int}}", "{x=.a,y=.b;.c}", "record{x:int,y:int}"},
		{"record{a:int,b:record{c:int,d:int}}", "{x=.a,y=.b;.c,z=.b;.d}", "record{x:int,y:int,z:int}"}, // each alone leaves something out
		{"record{a:int,b:record{c:int,d:int}}", "{x=.a,y=.b;{c=.c,d=.d}}", "record{x:int,y:record{c:int,d:int}}!"},
		{"record{a:int,b:record{c:int,d:int}}", "{x=.a,y=.b;{c=.c}}", "record{x:int,y:record{c:int}}"},
		{"record{a:int,b:int}", "{x=.a,y=(.b;id);id}", "record{x:int,y:int}"}, // begins with an OpPipe, not with an OpGet
		{"record{a:int,b:int}", "{x=.a,y=id;.b}", "record{x:int,y:int}"},
		{"record{a:int,b:int}", "{x=.a,y=.b;(id;totext)}", "record{x:int,y:text}!"},
		{"record{a:int,b:int}", "{x=.a,y=.b;(id;const 1)}", "record{x:int,y:int}"},
		{"record{a:int,b:int}", "{x=.a,y={z=.b}}", "record{x:int,y:record{z:int}}"}, // no OpGet, no OpPipe
		{"record{a:int,b:int}", "{x=.a,y=.b};.x", "int"},
		{"record{a:int,b:int}", "{x={a=.b,b=.a}}", "record{x:record{a:int,b:int}}!"},
		{"record{a:int,b:int}", "{x=.a,y=.a;totext}", "record{x:int,y:text}"},
		{"record{a:text}", "{x=id,y=.a;tonum}", "record{x:record{a:text},y:num}"},
		{"record{a:text}", "{y=.a;tonum}", "record{y:num}"},
		{"record{a:int,b:int}", "{x=.a,y=.c}", ""},
		{"record{a:int,b:int}", "{x=.a,y=.b;.c}", ""},
		{"union{a:int,b:int}", "{x=case{a=tag x,b=tag y}}", "record{x:union{x:int,y:int}}!"},
		{`record{"":int,b:int}`, `{x=."",y=.b}`, "record{x:int,y:int}!"},
		{`record{"":int}`, "{x=const 1}", "record{x:int}"},
		{`record{"":int,b:int}`, "{x=const 1,y=.b}", "record{x:int,y:int}"},
	})
}

// P15.1: OpCase, the Join of what is made, and when it is apart.
func TestCase(t *testing.T) {
	wantRows(t, []row{
		{"union{}", "case{}", "union{}!"},
		{"union{}", "case{a=id}", "union{}!"},
		{"union{}", "case{a=sum;.q}", "union{}!"},
		{"union{a:int}", "case{}", ""},
		{"union{a:int}", "case{b=id}", ""},
		{"union{a:int}", "case{a=id}", "int"}, // no union
		{"union{a:int}", "case{a=tag q}", "union{q:int}!"},
		{"union{a:union{b:int}}", "case{a=id}", "union{b:int}!"},
		{"union{a:int}", "case{a=.q}", ""},
		{"union{a:int}", "case{a=tag q,b=.q}", "union{q:int}!"},
		{"union{a:int}", "case{b=.q,a=tag q}", "union{q:int}!"},
		{"union{b:int,a:text}", "case{a=tag a,b=tag b}", "union{b:int,a:text}!"}, // the order of the union's names
		{"union{a:text,b:int}", "case{b=tag b,a=tag a}", "union{a:text,b:int}!"},
		{"union{a:int,b:text}", "case{a=id,b=id}", "any"},
		{"union{a:int,b:num}", "case{a=id,b=id}", "num"},
		{"union{a:num,b:int}", "case{a=id,b=id}", "num"},
		{"union{a:int,b:num}", "case{a=tag x,b=tag x}", "union{x:num}"},
		{"union{a:int,b:text}", "case{a=tag x,b=tag x}", "any"},
		{"union{a:int,b:text}", "case{a=totext,b=id}", "text"},
		{"union{a:int,b:text}", "case{a=tag x,b=tonum;tag y}", "union{x:int,y:num}"},
		{"union{a:int,b:text}", "case{a=tag x,b={p=id,q=tonum};tag y}", "union{x:int,y:record{p:text,q:num}}"}, // apart, but not safe
		{"union{a:int,b:text}", "case{a=tag x,b=id}", "any"},
		{"union{a:int,b:text}", "case{a=tag x,b=const null;tag y}", "union{x:int,y:null}"},
		{"union{a:int,b:null}", "case{a=tag x,b=const 1;tag y}", "union{x:int,y:int}!"},
		{"union{a:int,b:null}", "case{a=tag x,b=const 1;tag x}", "union{x:int}"},
		{"union{a:union{x:int,y:int},b:union{z:int}}", "case{a=id,b=id}", "union{x:int,y:int,z:int}!"},
		{"union{a:union{x:int,y:int},b:union{y:int}}", "case{a=id,b=id}", "union{x:int,y:int}"},
		{"union{a:union{y:int},b:union{x:int,y:int}}", "case{a=id,b=id}", "union{x:int,y:int}"},
		{"union{a:union{x:int,y:int},b:union{z:int},c:union{w:int,x:int}}", "case{a=id,b=id,c=id}", "union{x:int,y:int,z:int,w:int}"},
		{"union{a:union{x:int,y:int},b:union{},c:union{w:int}}", "case{a=id,b=id,c=id}", "union{x:int,y:int,w:int}!"},
		{"union{a:union{},b:union{}}", "case{a=id,b=id}", "union{}!"},
		{"union{a:int,b:text,c:num}", "case{a=id,b=id,c=id}", "any"}, // from the front: any it is behind b, and stays
		{"union{a:int,b:num,c:int}", "case{a=id,b=id,c=id}", "num"},
		{"union{a:union{x:int},b:union{y:int},c:union{x:text}}", "case{a=id,b=id,c=id}", "any"},
		{"union{a:union{x:int},b:union{y:int},c:union{y:int,x:num}}", "case{a=id,b=id,c=id}", "union{y:int,x:num}"},
		{"union{c:union{y:int,x:num},a:union{x:int},b:union{y:int}}", "case{a=id,b=id,c=id}", "union{y:int,x:num}"},
		{"union{b:union{y:int},a:union{x:int},c:union{z:int}}", "case{a=id,b=id,c=id}", "union{y:int,x:int,z:int}!"},
		{"union{a:record{x:int},b:record{x:num}}", "case{a=id,b=id}", "record{x:num}"},
		{"union{a:record{x:int},b:record{y:int}}", "case{a=id,b=id}", "any"},
		{"union{a:any,b:int}", "case{a=tag x,b=tag y}", "union{x:any,y:int}!"},
		{"union{a:any,b:int}", "case{a=tag x,b=.q}", ""},
		{"union{a:list(int),b:int}", "case{a=sum;tag x,b=tag y}", "union{x:int,y:int}"},
		{"union{a:list(int),b:int}", "case{a=count;tag x,b=tag y}", "union{x:int,y:int}"},
		{"union{a:record{p:int,q:int},b:int}", "case{a=.p;tag x,b=tag y}", "union{x:int,y:int}"},
		{"union{a:record{p:int},b:int}", "case{a=.p;tag x,b=tag y}", "union{x:int,y:int}!"},
		{"union{a:union{p:int,q:text},b:int}", "case{a=case{p=tag x,q=tag y},b=tag z}", "union{x:int,y:text,z:int}!"},
		{"union{a:union{p:int,q:text},b:int}", "case{a=case{p=tag x,q=tag z},b=tag z}", "any"},
		{"union{a:int,b:int}", "case{a=tag x,b=tag y};case{x=tag p,y=tag q}", "union{p:int,q:int}!"},
		{"union{a:int,b:int}", "case{a=tag x,b=tag y};case{x=tag p,y=tag p}", "union{p:int}"},
		{"union{a:int,b:int}", "case{a=tag x,b=tag y};case{x=tag p}", ""},
		{"union{a:int,b:text}", "case{a=tag x,b=tag x};case{x=id}", ""}, // of any
		{"record{a:int}", "case{a=id}", ""},
		{"list(union{a:int})", "case{a=id}", ""},
		{"any", "case{a=id}", ""},
	})
}

// P15.1: OpPipe.
func TestPipe(t *testing.T) {
	wantRows(t, []row{
		{"int", "id;id", "int!"},
		{"int", "totext;tonum", "num"},
		{"int", "totext;totext", "text!"},
		{"int", "tag a;tag b", "union{b:union{a:int}}!"},
		{"int", "tag a;case{a=id}", "int"},
		{"int", "tag a;case{a=tag b}", "union{b:int}!"},
		{"null", "const 1;const 1", "int"},
		{"null", "const null;const 1", "int!"},
		{"int", "const null;const 1", "int"},
		{"list(text)", "[tonum];[totext];count", "int"},
		{"list(text)", "[tonum];[totext]", "list(text)"},
		{"list(int)", "[totext];[totext]", "list(text)!"},
		{"int", "{a=id,b=id};.a", "int"},
		{"int", "{a=id};.a", "int!"},
		{"int", "(id;totext);(id;id)", "text!"},
		{"int", "(id;totext);sum", ""},
		{"int", "totext;sum", ""},
		{"int", "sum;totext", ""},
		{"int", "{a=id};.b", ""},
		{"int", "id;id;id;.a", ""},
	})
}
