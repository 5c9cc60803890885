package norm_test

import (
	"math/rand"
	"testing"

	"calamus/api"
	"calamus/check"
	"calamus/eval"
	"calamus/lang"
	"calamus/norm"
	"calamus/value"
)

// isBoth asks that Norm of an OpPipe of two makes of v what both make, one behind the other, and refuses what one of them refuses for another cause than a limit. It tells what both answer.
func isBoth(t *testing.T, a, b api.Expr, v api.Value) api.Errno {
	t.Helper()
	want, bad := eval.Run(a, v)
	if bad == api.OK {
		want, bad = eval.Run(b, want)
	}
	if bad == api.ErrLimit {
		return bad
	}
	both, worse := norm.Norm(pipe(a, b))
	if worse != api.OK {
		t.Errorf("P17.3: Norm of %s and %s = %d", short(a), short(b), worse)
	}
	if got, worse := eval.Run(both, v); (bad == api.OK) != (worse == api.OK) || !value.Equal(got, want) {
		t.Errorf("P17.3: %s, made of %s and %s, of %s: %s, %d, one behind the other %s, %d", short(both), short(a), short(b), short(v), short(got), worse, short(want), bad)
	}
	return bad
}

// P17.3, T6.
func TestPipeIsBoth(t *testing.T) {
	r := rand.New(rand.NewSource(177))
	told := map[api.Errno]int{}
	exprs, values := smallExprs(), smallValues()
	for range 20000 {
		told[isBoth(t, exprs[r.Intn(len(exprs))], exprs[r.Intn(len(exprs))], values[r.Intn(len(values))])]++
	}
	for range 4000 {
		v := someValue(r, 1+r.Intn(4))
		a := roundabout(r, taking(r, v, 1+r.Intn(3)))
		made, _ := eval.Run(a, v)
		b := roundabout(r, taking(r, made, 1+r.Intn(3)))
		if lang.Check(pipe(a, b)) == api.OK {
			told[isBoth(t, a, b, v)]++
		}
	}
	if told[api.OK] < 2000 || told[api.ErrEvalType] < 8000 || told[api.ErrEvalCoerce] < 30 {
		t.Errorf("only %v answers", told)
	}
}

// P17.3: Norm of what two were made shorter to makes the same as both, too.
func TestPartsMadeShorter(t *testing.T) {
	r := rand.New(rand.NewSource(178))
	for range 4000 {
		v := someValue(r, 1+r.Intn(4))
		a := roundabout(r, taking(r, v, 1+r.Intn(3)))
		made, bad := eval.Run(a, v)
		b := roundabout(r, taking(r, made, 1+r.Intn(3)))
		if bad != api.OK || lang.Check(pipe(a, b)) != api.OK {
			continue
		}
		if want, bad := eval.Run(b, made); bad == api.OK {
			got, bad := eval.Run(normed(t, pipe(normed(t, a), normed(t, b))), v)
			if bad != api.OK || !value.Equal(got, want) {
				t.Errorf("P17.3: %s and %s of %s: %s, %d, want %s", short(a), short(b), short(v), short(got), bad, short(want))
			}
		}
	}
}

// T4, T6: a mapping that fits a type makes, made shorter, of its values what is of the type that is told of the longer one, and refuses them for no other cause.
func TestByTypes(t *testing.T) {
	for _, x := range []struct{ in, mapping, value string }{
		{"record{a:text,b:num}", "{x=.b;totext;id,y=.a;tag t;case{t=id}}", `{"a":"p","b":1}`},
		{"list(text)", "[totext];[tonum];sum;tonum", `["1","0.5"]`},
		{"list(text)", "[totext];[tonum];sum;tonum", `["x"]`},
		{"union{a:int,b:null}", "case{a=tag x;tag y;case{y=id},b=tag y}", `{"$tag":["a",1]}`},
		{"list(record{k:num})", "[{k=.k,v=id}];[.k];[{s=id}];[.s];sum", `[{"k":1},{"k":2}]`},
		{"any", "{a=id,b=const 1};.a;tag t", `[null]`},
	} {
		in, bad, _ := lang.ParseType(x.in)
		e, v := mappingOf(t, x.mapping), valueOf(t, x.value)
		if _, worse := check.Infer(in, e); bad != api.OK || worse != api.OK {
			t.Fatalf("Infer(%s, %s) = %d, %d", x.in, x.mapping, bad, worse)
		}
		if n := normed(t, e); sizeOf(n) >= sizeOf(e) {
			t.Errorf("Norm(%s) = %s", x.mapping, short(n))
		}
		if bad := makesSame(t, e, normed(t, e), v); bad != api.OK && bad != api.ErrEvalCoerce {
			t.Errorf("T4: Run(%s, %s) = %d", x.mapping, x.value, bad)
		}
	}
}
