package norm_test

import (
	"strings"
	"testing"

	"calamus/api"
)

// What the rules leave out, rule by rule, and what they must not.

func TestLaid(t *testing.T) {
	wantRows(t, []row{
		{".a;(.b;.c)", ".a;.b;.c"},
		{"(.a;.b);.c", ".a;.b;.c"},
		{"(.a;.b);(.c;.d)", ".a;.b;.c;.d"},
		{"((.a;.b);((.c;.d);.e));.f", ".a;.b;.c;.d;.e;.f"},
		{"{x=(.a;.b);.c}", "{x=.a;.b;.c}"},
		{"[.a;(.b;.c)]", "[.a;.b;.c]"},
		{"case{x=.a;(.b;.c),y=(.a;.b);.c}", "case{x=.a;.b;.c,y=.a;.b;.c}"},
		{".a;.b", ".a;.b"},
	})
}

func TestLeftOut(t *testing.T) {
	wantRows(t, []row{
		{"id;.a", ".a"}, {".a;id", ".a"}, {".a;id;.b", ".a;.b"}, {".a;id;id;.b;id", ".a;.b"},
		{"(id;id);.a", ".a"}, {"id;(id;id);id", "id"}, {"(.a;id);(id;.b)", ".a;.b"},
		{"[id;.a]", "[.a]"}, {"[id;id]", "[id]"}, {"[id]", "[id]"}, {"{a=id;id}", "{a=id}"}, {"{a=id}", "{a=id}"}, {"case{a=id;id,b=id}", "case{a=id,b=id}"},
		{"[id];id", "[id]"}, {"id;{}", "{}"}, {"case{};id", "case{}"},
	})
}

// What is done twice.
func TestDoneTwice(t *testing.T) {
	wantRows(t, []row{
		{"tonum;tonum", "tonum"}, {"tonum;tonum;tonum", "tonum"}, {"sum;tonum", "sum"}, {"count;tonum", "count"}, {"const 1.5;tonum", "const 1.5"},
		{"totext;totext", "totext"}, {`const "x";totext`, `const "x"`},
		{"[tag a];[id]", "[tag a]"}, {"[id];[id]", "[id]"}, {"[id];[.a]", "[.a]"}, {"[id];sum", "sum"}, {"[id];count", "count"},
		{"totext;tonum", "tonum"}, {"tonum;totext;tonum", "tonum"}, {"totext;tonum;totext", "tonum;totext"}, {"tonum;totext", "tonum;totext"},
		{"count;totext;tonum", "count"}, {"[totext];[tonum]", "[tonum]"}, {"[totext];[tonum];sum", "[tonum];sum"},
		{"count;{a=tonum,b=totext}", "count;{a=id,b=totext}"}, {"totext;{a=totext,b=tonum}", "totext;{a=id,b=tonum}"},
		{"tonum;{a=tonum;tag x,b={c=tonum}}", "tonum;{a=tag x,b={c=id}}"}, {"[tonum];{a=[id],b=[id];count}", "[tonum];{a=id,b=count}"},
		// What comes is not known, or is changed.
		{".a;tonum", ".a;tonum"}, {".a;totext", ".a;totext"}, {".a;[id]", ".a;[id]"}, {"const null;totext", "const null;totext"}, {"const true;totext", "const true;totext"}, {`const "1";tonum`, `const "1";tonum`}, {"const 1;totext", "const 1;totext"},
		{"tag a;tonum", "tag a;tonum"}, {"{};totext", "{};totext"}, {"{};[id]", "{};[id]"}, {"[id];tonum", "[id];tonum"}, {"[id];totext", "[id];totext"}, {"tonum;[id]", "tonum;[id]"}, {"totext;[id]", "totext;[id]"},
		{"[id];.a", "[id];.a"}, {"[id];{a=id}", "[id];{a=id}"}, {"[id];tag a", "[id];tag a"}, {"[id];case{a=id}", "[id];case{a=id}"},
		{"[tonum];[tonum;tag a]", "[tonum;tag a]"}, {"count;[tonum]", "count;[tonum]"}, {"[count];sum;tonum", "[count];sum"}, {"count;case{a=tonum}", "count;case{a=tonum}"}, {"tag a;case{a=tonum}", "tonum"}, {"tonum;tag a;case{a=tonum}", "tonum"},
		{"[tonum];{x=tonum}", "[tonum];{x=tonum}"}, {"tonum;{a=.x;tonum}", "tonum;{a=.x;tonum}"}, {"{a=tonum,b=tonum}", "{a=tonum,b=tonum}"},
	})
}

// A tag that is taken off again.
func TestUntagged(t *testing.T) {
	wantRows(t, []row{
		{"tag a;case{a=.x}", ".x"}, {"tag a;case{b=.y,a=.x}", ".x"}, {"tag b;case{b=.y,a=.x}", ".y"}, {"tag a;case{a=id}", "id"}, {"tag a;case{a=id,b=sum}", "id"},
		{".p;tag a;case{a=.x;.y};.q", ".p;.x;.y;.q"}, {"tag a;tag b;case{b=case{a=.x}}", ".x"}, {"tag a;case{a=tag b};case{b=.x}", ".x"}, {"tag a;(case{a=.x};.y)", ".x;.y"},
		{"[tag a];[case{a=id,b=sum}]", "[id]"}, {"[tag a];[case{a=id,b=sum}];sum", "sum"}, {"[tag a;case{a=.x}]", "[.x]"}, {"{q=tag a;case{a=.x}}", "{q=.x}"}, {"case{q=tag a;case{a=.x}}", "case{q=.x}"},
		// Another name, or something between.
		{"tag a;case{b=id}", "tag a;case{b=id}"}, {"tag a;case{}", "tag a;case{}"}, {"tag a;case{A=id}", "tag a;case{A=id}"}, {"tag a;tag b;case{a=id}", "tag a;tag b;case{a=id}"}, {"tag a;{x=id};case{a=id}", "tag a;{x=id};case{a=id}"}, {"tag a;.a", "tag a;.a"}, {"case{a=id};tag a", "case{a=id};tag a"}, {"{a=id};case{a=id}", "{a=id};case{a=id}"},
	})
}

// A record that is made for one of its elements.
func TestTaken(t *testing.T) {
	wantRows(t, []row{
		{"{a=.x};.a", ".x"}, {"{a=id};.a", "id"}, {"{a=.x;.y};.a", ".x;.y"}, {"{b=id,a=.x};.a", ".x"}, {"{a=.x,b=id};.a", ".x"}, {"{a=.x,b=id};.b", "{a=.x,b=id};.b"},
		{"{a=.x,b=tag q,c=const 1,d={},e={f=id,g=tag h}};.a", ".x"}, {"{a=.x,b=tag q;tag r,c=tag q;const null};.a", ".x"}, {"{a=.x,b=const 1;totext,c=const true;totext,d=totext;const 1};.a", "{a=.x,b=const 1;totext,c=const true;totext,d=totext;const 1};.a"}, {"{a=.x,b=const 1;totext,c=const true;totext};.a", ".x"},
		{"{a=.x,b={c={d=id}}};.a", ".x"}, {"{a={b={c=.x}};.b};.a;.c", ".x"}, {"{a={b=.x,c=id}};.a;.b", ".x"}, {"{a=.x};{a=.a};.a", ".x"}, {"{a=.x};(.a;.b)", ".x;.b"}, {"[{a=.x}];[.a]", "[.x]"}, {"[{a=.x};.a]", "[.x]"}, {"{q={a=.x};.a}", "{q=.x}"},
		{"count;{a=tag x,b=totext};.a", "count;tag x"}, {"count;{a=tag x,b=tonum};.a", "count;tag x"}, {"totext;{a=tag x,b=totext};.a", "totext;tag x"}, {"[.x];{a=tag x,b=count,c=[tag y]};.a", "[.x];tag x"}, {"[.x];{a=tag x,b=[[tag y]]};.a", "[.x];{a=tag x,b=[[tag y]]};.a"},
		{"count;{a=tag x,b={c=totext},d=tag y};.a", "count;tag x"}, {"{p=count;{a=id,b=totext};.a}", "{p=count}"}, {"count;{p={a=id,b=totext};.a}", "count;{p=id}"},
		// Another may be refused, or there is none of that name.
		{"{a=id,b=.x};.a", "{a=id,b=.x};.a"}, {"{b=.x,a=id};.a", "{b=.x,a=id};.a"}, {"{a=sum,b=id};.a", "sum"}, {"{a=sum,b=count};.b", "{a=sum,b=count};.b"}, {"{a=id,b=sum};.a", "{a=id,b=sum};.a"}, {"{a=id,b=count};.a", "{a=id,b=count};.a"}, {"{a=id,b=totext};.a", "{a=id,b=totext};.a"}, {"{a=id,b=tonum};.a", "{a=id,b=tonum};.a"}, {"{a=id,b=[id]};.a", "{a=id,b=[id]};.a"},
		{"{a=id,b=case{}};.a", "{a=id,b=case{}};.a"}, {"{a=id,b=case{x=id}};.a", "{a=id,b=case{x=id}};.a"}, {"{a=id,b={c=.x}};.a", "{a=id,b={c=.x}};.a"}, {"{a=id,b=tag x;.y};.a", "{a=id,b=tag x;.y};.a"}, {"{a=id,b=.y;const 1};.a", "{a=id,b=.y;const 1};.a"}, {"{a=id,b=const null;totext};.a", "{a=id,b=const null;totext};.a"}, {`{a=id,b=const "x";tonum};.a`, `{a=id,b=const "x";tonum};.a`},
		{"count;{a=id,b=count};.a", "count;{a=id,b=count};.a"}, {"totext;{a=id,b=tonum};.a", "totext;{a=id,b=tonum};.a"}, {"[.x];{a=id,b=[.y]};.a", "[.x];{a=id,b=[.y]};.a"}, {"[.x];{a=id,b=sum};.a", "[.x];{a=id,b=sum};.a"}, {"[.x];{a=id,b=totext};.a", "[.x];{a=id,b=totext};.a"}, {"{};{a=id,b=totext};.a", "{};{a=id,b=totext};.a"}, {"tag q;{a=id,b=count};.a", "tag q;{a=id,b=count};.a"},
		{"{a=id};.b", "{a=id};.b"}, {"{};.a", "{};.a"}, {"{a=id};.A", "{a=id};.A"}, {"{a=id};{b=.a}", "{a=id};{b=.a}"}, {"case{a=id};.a", "case{a=id};.a"}, {".a;{a=id}", ".a;{a=id}"}, {"{a=id};tag x;.a", "{a=id};tag x;.a"},
		{"[count;{a=id,b=totext};.a]", "[count]"}, {"count;[{a=id,b=totext};.a]", "count;[{a=id,b=totext};.a]"}, {"count;case{x={a=id,b=totext};.a}", "count;case{x={a=id,b=totext};.a}"},
	})
}

// What nobody asks for.
func TestUnasked(t *testing.T) {
	wantRows(t, []row{
		{"tag a;const 1", "const 1"}, {"const 1;const 2", "const 2"}, {"{};const null", "const null"}, {"{a=id,b=tag x};const true", "const true"}, {`tag a;tag b;const "x"`, `const "x"`}, {"const 1;totext;const 2", "const 2"}, {"count;totext;const 1", "count;const 1"}, {"count;{a=totext,b=id};const 1", "count;const 1"}, {"[.a];[tag b];const 1", "[.a];const 1"}, {"[.a];count;const 1", "[.a];const 1"},
		{".a;const 1", ".a;const 1"}, {"sum;const 1", "sum;const 1"}, {"count;const 1", "count;const 1"}, {"[id];const 1", "[id];const 1"}, {"totext;const 1", "totext;const 1"}, {"tonum;const 1", "tonum;const 1"}, {"case{};const 1", "case{};const 1"}, {"case{a=id};const 1", "case{a=id};const 1"}, {"{a=.a};const 1", "{a=.a};const 1"}, {"const null;totext;const 1", "const null;totext;const 1"},
		{"{x=tag a;const 1}", "{x=const 1}"}, {"[tag a;const 1]", "[const 1]"}, {"case{x=tag a;const 1}", "case{x=const 1}"}, {"const 1;tag a", "const 1;tag a"}, {"const 1;{a=const 2}", "const 1;{a=const 2}"},
	})
}

// What is made of elements that are counted then.
func TestUncounted(t *testing.T) {
	wantRows(t, []row{
		{"[tag a];count", "count"}, {"[{}];count", "count"}, {"[const 1];count", "count"}, {"[{a=id,b=tag x}];count", "count"}, {"[.a];count", "[.a];count"}, {"[.a;tag b];count", "[.a];count"}, {"[.a];[tag b];count", "[.a];count"}, {"[tag b];[.a];count", "[tag b;.a];count"}, {"[count;totext];count", "[count];count"}, {"[tonum;totext;tag a];count", "[tonum];count"}, {"[totext];[totext];[tonum];count", "[tonum];count"},
		{"[[tag a]];count", "[[tag a]];count"}, {"[[.a];[tag b]];count", "[[.a]];count"}, {"[[.a];count];count", "[[.a]];count"}, {"[[tag a];count];count", "[[tag a]];count"}, {"[sum];count", "[sum];count"}, {"[totext];count", "[totext];count"}, {"[case{a=tag b}];count", "[case{a=tag b}];count"}, {"[tag a];sum", "[tag a];sum"}, {"[const 1];sum", "[const 1];sum"}, {"[tag a];tag b", "[tag a];tag b"},
		{".l;[tag a];count;tag n", ".l;count;tag n"}, {"{n=[tag a];count,l=[tag a]}", "{n=count,l=[tag a]}"}, {"[[tag a];count]", "[count]"}, {"case{x=[tag a];count}", "case{x=count}"},
	})
}

// A list that is gone through twice.
func TestJoined(t *testing.T) {
	wantRows(t, []row{
		{"[.a];[.b]", "[.a;.b]"}, {"[.a];[.b];[.c]", "[.a;.b;.c]"}, {"[.a;.b];[.c;.d]", "[.a;.b;.c;.d]"}, {"[[.a]];[[.b]]", "[[.a;.b]]"}, {"[[.a];[.b]];[[.c]]", "[[.a;.b;.c]]"}, {".x;[.a];[.b];.y", ".x;[.a;.b];.y"}, {".x;([.a];[.b])", ".x;[.a;.b]"}, {"[.a];id;[.b]", "[.a;.b]"}, {"[.a;[.b]];[[.c];sum]", "[.a;[.b;.c];sum]"},
		{"[.a];[sum];sum", "[.a;sum];sum"}, {"{x=[.a];[.b]}", "{x=[.a;.b]}"}, {"case{x=[.a];[.b]}", "case{x=[.a;.b]}"}, {"[.a];.b;[.c]", "[.a];.b;[.c]"}, {"[.a];sum", "[.a];sum"}, {"sum;[.a]", "sum;[.a]"}, {"[.a];tag x;case{x=[.b]}", "[.a;.b]"},
	})
}

// What no rule knows of stays as it is.
func TestStays(t *testing.T) {
	for _, s := range []string{
		"id", "totext", "tonum", "sum", "count", ".a", `."a b"`, "{}", "{a=.b,b=.a}", "{a=.a,b=.a}", "[id]", "[[id]]", "tag a", "tag a;tag a", "case{}", "case{a=case{a=id}}", "const null", "const 1.5", `const ""`, "[.a];sum", ".a;.a", "sum;sum", "count;count", "sum;totext", ".a;{b=id};{c=.b}", "{a=.x,b=.y};{c=.b}", "case{a=id};case{a=id}",
	} {
		wantRows(t, []row{{s, s}})
	}
	long := constant(text(strings.Repeat("\u00e9", 2048)))
	for _, e := range []api.Expr{wide(api.OpRecord, 256), wide(api.OpCase, 256), long, pipe(wide(api.OpCase, 200), long), within(15, id), {Op: api.OpRecord, Names: []string{""}, List: []api.Expr{get("")}}, tag(strings.Repeat("a", 64))} {
		wantNorm(t, e, e)
	}
}

// Rules are done again, when others have been done.
func TestTillNothingChanges(t *testing.T) {
	wantRows(t, []row{
		{"[totext];[totext];[tonum];count", "[tonum];count"},
		{"tag a;case{a={x=id,y=id;id};.x};{z=(.q;id)};.z", ".q"},
		{"{x=[tag a];[case{a=id}],y=const 1;tag u;const 2};.x", "[id]"},
		{"{x=[tag a];[case{a=id}],y=const 1;tag u;const 2};.x;count", "count"},
		{"([.a];([tag t];[case{t=.b}]));([{c=id};.c];id)", "[.a;.b]"},
		{"{a={b={c={d=id};.d};.c};.b};.a", "id"},
		{"const 1;{a=tonum,b=totext;tonum};.a", "const 1"},
		{"const 1;{a=tonum,b=totext};.a", "const 1"},
		{"[{k=tag x;case{x=.k},v=id};.k];[tonum;totext;tonum];sum;tonum", "[.k;tonum];sum"},
	})
}
