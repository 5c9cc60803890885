package run_test

import (
	"math/rand"
	"slices"
	"testing"

	"calamus/api"
	"calamus/code"
	"calamus/eval"
	"calamus/event"
	"calamus/json"
	"calamus/lang"
	"calamus/norm"
	"calamus/value"
)

// ask feeds a whole value's events in parts, and holds what is told against what eval.Run makes of the value. It answers eval.Run's error, value.Check's ahead of it.
func ask(t *testing.T, e api.Expr, v api.Value, next cut) api.Errno {
	t.Helper()
	x := talkOf(t, e, eventsOf(v), next)
	made, bad := eval.Run(e, v) // asks value.Check, too
	switch {
	case bad == api.OK:
		if want := eventsOf(made); x.bad != api.OK || !slices.Equal(x.told, want) || !x.m.Done() {
			t.Errorf("P19.2: %s of %s tells %s, %d, want %s", short(e), short(v), short(x.told), x.bad, short(want))
		}
	case bad != api.ErrLimit:
		if x.bad == api.OK {
			t.Errorf("P19.2: %s of %s tells %s, and no error, but eval.Run %d", short(e), short(v), short(x.told), bad)
		}
	case x.bad == api.OK && e.Op != api.OpId: // more than the chapter asks: limits are those of eval
		t.Errorf("T6: %s of %s tells %s, and no error, but eval.Run %d", short(e), short(v), short(x.told), bad)
	case x.bad == api.OK && !x.out.Done():
		t.Errorf("P19.2: %s of %s tells %s, which is no value's", short(e), short(v), short(x.told))
	}
	if x.bad == api.OK {
		endsThere(t, x)
	}
	return bad
}

// endsThere asks that nothing may come behind a whole value.
func endsThere(t *testing.T, x *talk) {
	t.Helper()
	x.feed([]api.Event{[]api.Event{evNull, evEnd, evName("a"), evList}[len(x.fed)%4]})
	if x.bad != api.ErrEventForm || x.m.Done() {
		t.Errorf("P19.2: %s, fed %s: %d, and more behind it", short(x.e), short(x.fed), x.bad)
	}
}

// P19.2 of all small mappings and values.
func TestSmall(t *testing.T) {
	told := map[api.Errno]int{}
	values := smallValues()
	for i, e := range smallExprs() {
		for k := i % 4; k < len(values); k += 4 {
			v := values[k]
			told[ask(t, e, v, []cut{oneByOne, atOnce, threeEach}[k%3])]++
		}
	}
	if told[api.OK] < 5000 || told[api.ErrEvalType] < 5000 || told[api.ErrEvalCoerce] < 100 {
		t.Errorf("only %v answers", told)
	}
}

// The error that comes is any by P19.2; of one step it is eval.Run's.
func TestWhichError(t *testing.T) {
	refused := 0
	for _, e := range append(leaves(), mapOf(id), cases("a b", id, id)) {
		for _, v := range smallValues() {
			_, want := eval.Run(e, v)
			if x := talkOf(t, e, eventsOf(v), atOnce); x.bad != want {
				t.Errorf("P19.2: %s of %s: %d, want %d", short(e), short(v), x.bad, want)
			}
			if want != api.OK {
				refused++
			}
		}
	}
	if refused < 1000 {
		t.Errorf("only %d are refused", refused)
	}
}

// P19.2 of mappings and values of all sorts.
func TestOfMany(t *testing.T) {
	r := rand.New(rand.NewSource(192))
	told, other := map[api.Errno]int{}, 0
	for range 10000 {
		v := someValue(r, 1+r.Intn(5))
		e := taking(r, v, 1+r.Intn(6))
		told[ask(t, e, v, someParts(r))]++
		if ask(t, e, someValue(r, 4), someParts(r)) == api.OK {
			other++
		}
	}
	if told[api.OK] < 5000 || told[api.ErrEvalType] < 300 || told[api.ErrEvalCoerce] < 80 || told[api.ErrLimit] < 15 || other < 1500 {
		t.Errorf("only %v answers, %d at other values", told, other)
	}
}

// P19.2 where limits are near.
func TestNearLimits(t *testing.T) {
	r := rand.New(rand.NewSource(193))
	told := map[api.Errno]int{}
	for range 1000 {
		v := nearLimits(r)
		told[ask(t, taking(r, v, 5), v, []cut{someParts(r), oneByOne, atOnce}[r.Intn(3)])]++
	}
	if told[api.OK] < 300 || told[api.ErrLimit] < 100 {
		t.Errorf("only %v answers", told)
	}
}

// P19.2 of ordinary mappings and documents, each in whatever two parts.
func TestOfTexts(t *testing.T) {
	for _, x := range [][]string{
		{"id", `1`, `[]`, `{"a":{"b":[null,"x"]},"c":{"$tag":["t",1]}}`},
		{".a", `{"a":1}`, `{"b":2,"a":{"a":3},"c":4}`, `{"b":2}`, `{}`, `[1]`, `1`, `{"$tag":["a",1]}`, `{"b":{"a":1}}`},
		{".a;.b", `{"a":{"b":1},"b":2}`, `{"b":{"b":1},"a":{"a":2,"b":3}}`, `{"a":{"a":1},"b":{"b":2}}`},
		{"{}", `1`, `[1,[2]]`, `{"a":1}`},
		{"{x=.a}", `{"a":1}`, `{"a":[1,{"x":2}],"b":3}`, `{"b":1}`},
		{"{x=.a,y=.b}", `{"a":1,"b":2}`, `{"b":1,"a":2}`, `{"a":[1],"b":{"a":1}}`, `{"a":1}`, `{"b":1}`},
		{"{n=count,s=sum,l=id}", `[]`, `[1,2.5]`, `[1,"a"]`, `null`, `{"a":1}`},
		{"{l=id,n=count};.n", `[1,2,3]`, `[]`},
		{"{x={y=id,z=[totext]},w=id}", `[1,true,"a"]`, `[]`, `[null]`},
		{"[{x=.a,y=.b};{z=.y,w=.x}]", `[{"a":1,"b":2},{"b":3,"a":4}]`, `[]`, `[{"a":1,"b":2},{"a":1}]`},
		{"[.a];[tonum];sum;totext", `[{"a":"1"},{"a":"2.5"}]`, `[]`, `[{"a":"x"}]`, `[{"b":1}]`},
		{"tag t", `1`, `[1]`, `{"$tag":["t",1]}`},
		{"tag t;case{t=.a,u=id}", `{"a":1}`, `1`},
		{"case{a=tag x,b=const 0}", `{"$tag":["a",[1,2]]}`, `{"$tag":["b",[1,2]]}`, `{"$tag":["c",1]}`, `["a",1]`, `"a"`},
		{"[case{a=sum,b=count}]", `[{"$tag":["a",[1,2]]},{"$tag":["b",[[],{}]]},{"$tag":["a",[]]}]`, `[{"$tag":["a",["x"]]}]`},
		{"[const 1]", `[1,[],{"a":1},{"$tag":["a",1]}]`},
		{`const "a";tag t`, `[1,[],{"a":1}]`},
		{"sum;const 1", `[1]`, `["x"]`, `1`},
		{"totext", `1.50`, `true`, `false`, `"a"`, `null`, `[1]`, `{"$float":"0000000000000001"}`, `{"$bytes":"00"}`},
		{"tonum", `1.50`, `"1.50"`, `"x"`, `true`, `["1"]`},
		{"sum", `[]`, `[1,-1,0.5]`, `[[1]]`, `[{"a":1}]`, `[1e400,1]`, `{"a":1}`, `{"$tag":["a",1]}`},
		{"count", `[]`, `[1,[2,3],{"a":[4]},{"$tag":["a",5]}]`, `{"a":1}`, `"a"`, `{"$tag":["a",[1]]}`},
		{"[count]", `[[],[1,2],[[3]]]`, `[[],1]`},
		{"[[{x=id}]]", `[[1,2],[],[{"a":[3]}]]`, `[[1],2]`},
		{"{a=id,b=id};{a=id,b=id};{c=.b;.a}", `1`, `[1,{"a":2}]`},
		{"{a=const 1,b=id,c=const 2}", `[1,{"a":2}]`},
		{"{a=id,b=const 1,c=const 2,d=id}", `[1,{"a":2}]`},
		{"[{a=.x,b=const 1,c=.y}];[{d=.c,e=.a}]", `[{"x":1,"y":[2]},{"y":[],"x":{"y":3}}]`},
	} {
		e := mappingOf(t, x[0])
		for _, s := range x[1:] {
			v := valueOf(t, s)
			for n := range eventsOf(v) {
				first := n
				ask(t, e, v, func(left int) int {
					n := min(first, left)
					first = left
					return n
				})
			}
			ask(t, e, v, oneByOne)
		}
	}
}

// isSameAs asks that the machine of another mapping tells the same as the first one's, if no error came of that.
func isSameAs(t *testing.T, x *talk, other api.Expr, next cut) {
	t.Helper()
	y := talkOf(t, other, x.fed, next)
	if x.bad == api.OK && (y.bad != api.OK || !slices.Equal(x.told, y.told)) {
		t.Errorf("P19.5: fed %s, %s tells %s, but %s %s, %d", short(x.fed), short(x.e), short(x.told), short(other), short(y.told), y.bad)
	}
}

// P19.5, T3, T6: parts make no difference, whether a whole value has come or not; what a mapping made shorter tells is the same, too.
func TestPartsAndShorter(t *testing.T) {
	r := rand.New(rand.NewSource(194))
	fine, refused, shorter := 0, 0, 0
	for i := range 15000 {
		v := someValue(r, 1+r.Intn(5))
		if i%30 == 0 {
			v = nearLimits(r)
		}
		e := taking(r, v, 1+r.Intn(5))
		l := eventsOf(v)
		switch r.Intn(4) {
		case 0:
			l = l[:r.Intn(len(l)+1)]
		case 1:
			l = changed(r, l)
		}
		x := newTalk(t, e)
		x.feed(l)
		for _, next := range []cut{oneByOne, someParts(r)} {
			y := talkOf(t, e, l, next)
			if (x.bad == api.OK) != (y.bad == api.OK) || x.bad == api.OK && !slices.Equal(x.told, y.told) {
				t.Errorf("P19.5: %s, fed %s: %s, %d, but in parts %s, %d", short(e), short(l), short(x.told), x.bad, short(y.told), y.bad)
			}
		}
		s, bad := norm.Norm(e)
		if bad != api.OK {
			t.Fatalf("Norm(%s) = %d", short(e), bad)
		}
		isSameWhole(t, x, s, r)
		if x.bad == api.OK {
			fine++
		} else {
			refused++
		}
		if norm.Size(s) < norm.Size(e) {
			shorter++
		}
	}
	if fine < 5000 || refused < 2500 || shorter < 2500 {
		t.Errorf("only %d tell all, %d an error; %d are made shorter", fine, refused, shorter)
	}
}

// isSameWhole asks isSameAs, if a whole value was fed: of a beginning, what is made shorter may tell more, since less is asked.
func isSameWhole(t *testing.T, x *talk, s api.Expr, r *rand.Rand) {
	t.Helper()
	if x.m.Done() {
		isSameAs(t, x, s, someParts(r))
	}
}

// T6: a program of a program's mapping does the same.
func TestProgramOfProgram(t *testing.T) {
	r := rand.New(rand.NewSource(195))
	for range 3000 {
		v := someValue(r, 1+r.Intn(5))
		e := taking(r, v, 1+r.Intn(5))
		l, bad := code.Compile(e)
		back, worse := code.Back(l)
		if bad != api.OK || worse != api.OK {
			t.Fatalf("Compile(%s) = %d, Back = %d", short(e), bad, worse)
		}
		x, y := talkOf(t, e, eventsOf(v), oneByOne), talkOf(t, back, eventsOf(v), oneByOne)
		if x.bad != y.bad || !slices.Equal(x.told, y.told) {
			t.Errorf("T6: %s of %s: %s, %d, and %s, %d", short(e), short(v), short(x.told), x.bad, short(y.told), y.bad)
		}
	}
}

// P19.2 of whatever texts and documents there are, and of whatever parts.
func FuzzMachine(f *testing.F) {
	for _, x := range [][2]string{{".a", `{"a":1}`}, {"[tonum] ; sum", `["1","0.5"]`}, {"{n = count, l = id}", `[null]`}, {"case {a = tag x, b = const 0}", `{"$tag":["a",null]}`}, {"totext", `1.50`}, {"{a=id,b=id};{a=id,b=id};.a;[.b]", `{"$bytes":"00"}`}} {
		f.Add(x[0], x[1], int64(1), 0)
	}
	f.Fuzz(func(t *testing.T, mapping, document string, seed int64, change int) {
		e, bad, _ := lang.Parse(mapping)
		v, worse := json.Read([]byte(document))
		if bad != api.OK || worse != api.OK || len(mapping) > 400 || len(document) > 2000 {
			return
		}
		r := rand.New(rand.NewSource(seed))
		ask(t, e, v, someParts(r))
		if value.Size(v) < 100 && change%2 == 1 {
			talkOf(t, e, changed(r, eventsOf(v)), someParts(r))
		}
		if l, bad := event.Flatten(v); bad != api.OK || !slices.Equal(l, eventsOf(v)) {
			t.Errorf("%s has other events", short(v))
		}
	})
}
