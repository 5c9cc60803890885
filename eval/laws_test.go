package eval_test

import (
	"math/rand"
	"strings"
	"testing"

	"calamus/api"
	"calamus/check"
	"calamus/eval"
	"calamus/json"
	"calamus/lang"
	"calamus/types"
	"calamus/value"
)

// fits asks that e, which fits a type and makes another there, refuses v, one of the type's values, by no other error than it may, and else makes a value of the type that is told. It answers what e makes of v, and whether it does.
func fits(t *testing.T, made api.Typed, e api.Expr, v api.Value) (api.Value, bool) {
	t.Helper()
	w, bad := eval.Run(e, v)
	if bad != api.OK {
		if bad != api.ErrLimit && (bad != api.ErrEvalCoerce || made.Lossless) {
			t.Errorf("P16.2: Run(%s, %s) = %d, lossless: %v", short(e), short(v), bad, made.Lossless)
		}
		return api.Value{}, false
	}
	if is, bad := types.Has(made.Type, w); !is || bad != api.OK {
		t.Errorf("P16.2: Run(%s, %s) = %s, which is none of %v", short(e), short(v), short(w), made.Type)
	}
	return w, true
}

// P16.2, T4, T5: what a mapping makes of a type's values is of the type that is told; what is lossless refuses none of them, and makes no two into one.
func TestByTypes(t *testing.T) {
	r := rand.New(rand.NewSource(165))
	fit, lossless, refused, alike := 0, 0, 0, 0
	for range 12000 {
		x := someType(r, 1+r.Intn(4))
		e := fitting(r, x, 1+r.Intn(5))
		made, bad := check.Infer(x, e)
		if bad != api.OK {
			continue
		}
		fit++
		if made.Lossless {
			lossless++
		}
		seen := map[string]api.Value{}
		for range 30 {
			v, ok := someOf(r, x)
			if !ok {
				continue
			}
			w, ok := fits(t, made, e, v)
			if !ok {
				refused++
				continue
			}
			b, _ := json.Write(w)
			first, twice := seen[string(b)]
			if twice && !value.Equal(first, v) {
				alike++
				if made.Lossless {
					t.Errorf("T5: %s is lossless, but makes %s of %s and %s", short(e), b, short(first), short(v))
				}
			}
			seen[string(b)] = v
		}
	}
	if fit < 8000 || lossless < 3000 || refused < 1000 || alike < 5000 {
		t.Errorf("only %d mappings fit, %d of them lossless; %d values are refused, %d made into one that another was", fit, lossless, refused, alike)
	}
}

// P16.2: ordinary mappings of ordinary types.
func TestByTypesOfTexts(t *testing.T) {
	for _, x := range []struct {
		in, mapping string
		lossless    bool
		values      string // blanks between, and behind each what is made of it
	}{
		{"record{a:text,b:num}", "{x=.b;totext,y=.a}", true, `{"a":"p","b":1} {"x":"1","y":"p"} {"a":"1","b":0.5} {"x":"0.5","y":"1"}`},
		{"record{a:text,b:num}", ".b;totext", false, `{"a":"p","b":1} "1" {"a":"q","b":1} "1"`},
		{"list(text)", "[tonum];sum", false, `["1","2"] 3 ["3"] 3 [] 0 ["x"] !coerce ["1e400","1"] !coerce`},
		{"union{a:int,b:null}", "case{a=tag x,b=tag y}", true, `{"$tag":["a",1]} {"$tag":["x",1]} {"$tag":["b",null]} {"$tag":["y",null]}`},
		{"union{a:int,b:int}", "case{a=tag x,b=tag x}", false, `{"$tag":["a",1]} {"$tag":["x",1]} {"$tag":["b",1]} {"$tag":["x",1]}`},
		{"list(num)", "sum", false, `[0.5,0.5] 1 [1] 1 [1e400,1] !coerce [1e400] 1e400`},
		{"list(int)", "{n=count,l=id}", true, `[1,2] {"n":2,"l":[1,2]} [] {"n":0,"l":[]}`},
		{"union{}", "case{}", true, ``},
		{"any", "tag a", true, `null {"$tag":["a",null]} [1,"a"] {"$tag":["a",[1,"a"]]}`},
	} {
		in, bad, _ := lang.ParseType(x.in)
		e := mappingOf(t, x.mapping)
		made, worse := check.Infer(in, e)
		if bad != api.OK || worse != api.OK || made.Lossless != x.lossless {
			t.Fatalf("Infer(%s, %s) = %v, %d", x.in, x.mapping, made, worse)
		}
		for l := strings.Fields(x.values); len(l) > 0; l = l[2:] {
			wantRows(t, []row{{x.mapping, l[0], l[1]}})
			fits(t, made, e, valueOf(t, l[0]))
		}
	}
}

// isBoth asks that an OpPipe of two makes what the second makes of what the first makes.
func isBoth(t *testing.T, a, b api.Expr, v api.Value) api.Errno {
	t.Helper()
	both, bad := eval.Run(pipe(a, b), v)
	w, worse := eval.Run(a, v)
	if worse == api.OK {
		w, worse = eval.Run(b, w)
	}
	if bad != worse || !value.Equal(both, w) {
		t.Errorf("P16.3: %s and %s of %s: %s, %d, one behind the other %s, %d", short(a), short(b), short(v), short(both), bad, short(w), worse)
	}
	return bad
}

// P16.3 of an OpPipe.
func TestPipeIsBoth(t *testing.T) {
	r := rand.New(rand.NewSource(166))
	told := map[api.Errno]int{}
	exprs := smallExprs()
	for _, v := range smallValues() {
		for range 100 {
			told[isBoth(t, exprs[r.Intn(len(exprs))], exprs[r.Intn(len(exprs))], v)]++
		}
	}
	for range 8000 {
		v := someValue(r, 1+r.Intn(4))
		a := taking(r, v, 1+r.Intn(4))
		made, _ := eval.Run(a, v)
		told[isBoth(t, a, taking(r, made, 1+r.Intn(4)), v)]++
	}
	deep := under(14, null)
	isBoth(t, tag("a"), tag("b"), deep)
	isBoth(t, tag("a"), tag("b"), list(deep))
	isBoth(t, tag("a"), get("b"), list(deep))
	isBoth(t, pipe(tag("a"), cases("a", id)), pipe(id, sum), list(number("1", 0)))
	if told[api.OK] < 10000 || told[api.ErrEvalType] < 10000 || told[api.ErrEvalCoerce] < 100 {
		t.Errorf("only %v answers", told)
	}
}

// P16.3 of an OpMap: of each element it makes what its mapping makes; what the first one that is refused is refused by, the whole is.
func TestMapIsEach(t *testing.T) {
	r := rand.New(rand.NewSource(167))
	told := map[api.Errno]int{}
	for range 20000 {
		v := someList(r, 1+r.Intn(4))
		e := leaves()[r.Intn(14)]
		if len(v.List) > 0 {
			e = taking(r, v.List[0], 1+r.Intn(4))
		}
		got, bad := eval.Run(mapOf(e), v)
		told[bad]++
		if bad == api.ErrLimit {
			continue
		}
		first := api.OK
		for i, w := range v.List {
			one, worse := eval.Run(e, w)
			if first == api.OK {
				first = worse
			}
			if bad == api.OK && (worse != api.OK || len(got.List) != len(v.List) || !value.Equal(got.List[i], one)) {
				t.Errorf("P16.3: [%s] of %s: %s, but of the element at %d %s, %d", short(e), short(v), short(got), i, short(one), worse)
			}
		}
		if bad != first {
			t.Errorf("P16.3: [%s] of %s: %d, but of the elements %d", short(e), short(v), bad, first)
		}
		if alone, bad := eval.Run(mapOf(e), list(v.List[:min(1, len(v.List))]...)); bad == api.OK && len(alone.List) != min(1, len(v.List)) {
			t.Errorf("P16.3: [%s] of one element of %s: %s", short(e), short(v), short(alone))
		}
	}
	if told[api.OK] < 8000 || told[api.ErrEvalType] < 1000 || told[api.ErrEvalCoerce] < 100 {
		t.Errorf("only %v answers", told)
	}
}
