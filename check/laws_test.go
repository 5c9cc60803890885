package check_test

import (
	"math/rand"
	"slices"
	"testing"

	"calamus/api"
	"calamus/check"
	"calamus/json"
	"calamus/types"
)

// pipeIsBoth asks that an OpPipe of two makes what they make, one behind the other, and is lossless if both are.
func pipeIsBoth(t *testing.T, x api.Type, a, b api.Expr) {
	t.Helper()
	both, bad := check.Infer(x, pipe(a, b))
	first, worse := check.Infer(x, a)
	if worse != api.OK {
		wantRefused(t, x, pipe(a, b), worse)
		return
	}
	second, worse := check.Infer(first.Type, b)
	if bad != worse || !sameType(both.Type, second.Type) || both.Lossless != (bad == api.OK && first.Lossless && second.Lossless) {
		t.Errorf("P15.2: %s, %s and %s: %v, %d, one behind the other %v, %v, %d", short(x), short(a), short(b), both, bad, first, second, worse)
	}
}

// P15.2: what two mappings make, one behind the other, an OpPipe of both makes.
func TestPipeIsBoth(t *testing.T) {
	r := rand.New(rand.NewSource(153))
	exprs := smallExprs()
	for _, x := range append(smallTypes(), deeperTypes()...) {
		for range 200 {
			pipeIsBoth(t, x, exprs[r.Intn(len(exprs))], exprs[r.Intn(len(exprs))])
		}
	}
	for range 20000 {
		x := someType(r, 1+r.Intn(4))
		a := fitting(r, x, 1+r.Intn(4))
		made, _ := check.Infer(x, a)
		if made.Type.Kind == 0 {
			made.Type = anyType
		}
		pipeIsBoth(t, x, a, fitting(r, made.Type, 1+r.Intn(4)))
	}
	deep := under(14, intType)
	pipeIsBoth(t, deep, tag("a"), tag("b"))
	pipeIsBoth(t, deep, tag("a"), get("b"))
	pipeIsBoth(t, listOf(deep), tag("a"), get("b"))
}

// narrowed is a type that is part of t, by the document's words.
func narrowed(r *rand.Rand, t api.Type) api.Type {
	switch {
	case t.Kind == api.TypeAny && r.Intn(3) > 0:
		return someType(r, 3)
	case t.Kind == api.TypeNum && r.Intn(2) == 0:
		return intType
	}
	n := kind(t.Kind)
	for i, u := range t.List {
		if t.Kind == api.TypeUnion && r.Intn(4) == 0 {
			continue
		}
		if t.Kind != api.TypeList {
			n.Names = append(n.Names, t.Names[i])
		}
		n.List = append(n.List, narrowed(r, u))
	}
	if t.Kind == api.TypeUnion {
		r.Shuffle(len(n.Names), func(i, k int) {
			n.Names[i], n.Names[k] = n.Names[k], n.Names[i]
			n.List[i], n.List[k] = n.List[k], n.List[i]
		})
	}
	return n
}

// hasCase tells whether an OpCase is in e.
func hasCase(e api.Expr) bool {
	return e.Op == api.OpCase || slices.ContainsFunc(e.List, hasCase)
}

// hasCaseAhead tells whether something in e takes what an OpCase makes.
func hasCaseAhead(e api.Expr) bool {
	if e.Op == api.OpPipe && slices.ContainsFunc(e.List[:len(e.List)-1], hasCase) {
		return true
	}
	return slices.ContainsFunc(e.List, hasCaseAhead)
}

// P15.2: a mapping that fits a type fits each type that is part of it, and makes part of what it makes there; what is lossless stays so.
func TestFitsParts(t *testing.T) {
	r := rand.New(rand.NewSource(154))
	plain, branched, narrower := 0, 0, 0
	for range 60000 {
		x := someType(r, 1+r.Intn(5))
		e := fitting(r, x, 1+r.Intn(5))
		made, bad := check.Infer(x, e)
		if bad != api.OK || hasCaseAhead(e) {
			continue
		}
		part := narrowed(r, x)
		if is, _ := types.Sub(part, x); !is {
			t.Fatalf("%s is no part of %s", short(part), short(x))
		}
		less, bad := check.Infer(part, e)
		if bad == api.ErrLimit {
			continue
		}
		if bad != api.OK {
			t.Errorf("P15.2: %s fits %s, but not %s: %d", short(e), short(x), short(part), bad)
		}
		if hasCase(e) {
			branched++
			continue
		}
		plain++
		is, _ := types.Sub(less.Type, made.Type)
		if !is || made.Lossless && !less.Lossless {
			t.Errorf("P15.2: %s makes %v of %s, but %v of %s", short(e), made, short(x), less, short(part))
		}
		if !sameType(less.Type, made.Type) {
			narrower++
		}
	}
	if plain < 10000 || branched < 1000 || narrower < 2000 {
		t.Errorf("only %d mappings, %d with an OpCase, %d that make less", plain, branched, narrower)
	}
}

// P15.2: what the document allows: an OpCase makes another type of a part, which what comes behind does not fit.
func TestCaseOfPart(t *testing.T) {
	e := mappingOf(t, "case{a=id,b=id};case{x=const 1}")
	wantMade(t, typeOf(t, "union{a:union{x:any},b:union{x:int}}"), e, intType, false)
	wantRefused(t, typeOf(t, "union{a:union{x:text},b:union{x:int}}"), e, api.ErrCheckType)
}

// byValues asks that e takes the values of x and makes values of the type that is told, and, if it is told to be lossless, refuses none and makes no two into one. It tells whether e fits, and is lossless.
func byValues(t *testing.T, x api.Type, e api.Expr) (fits, lossless bool) {
	t.Helper()
	made, bad := check.Infer(x, e)
	if bad != api.OK {
		return false, false
	}
	seen := map[string]api.Value{}
	for _, v := range valuesOf(x) {
		w, bad := done(e, v)
		if bad == api.ErrLimit {
			continue
		}
		if bad != api.OK {
			if bad != api.ErrEvalCoerce || made.Lossless {
				t.Errorf("T4: %s fits %s, but refuses %v: %d", short(e), short(x), v, bad)
			}
			continue
		}
		if is, bad := types.Has(made.Type, w); !is || bad != api.OK {
			t.Errorf("T4: %s makes %s of %s, but %v of %v", short(e), short(made.Type), short(x), w, v)
		}
		b, _ := json.Write(w)
		if first, twice := seen[string(b)]; twice && made.Lossless {
			t.Errorf("T5: %s is lossless at %s, but makes %s of %v and %v", short(e), short(x), b, first, v)
		}
		seen[string(b)] = v
	}
	return true, made.Lossless
}

// T4, T5: what is told of types holds of values.
func TestByValues(t *testing.T) {
	r := rand.New(rand.NewSource(155))
	fit, lossless := 0, 0
	ask := func(x api.Type, e api.Expr) {
		t.Helper()
		f, l := byValues(t, x, e)
		if f {
			fit++
		}
		if l {
			lossless++
		}
	}
	exprs := smallExprs()
	for _, x := range append(smallTypes(), deeperTypes()...) {
		for _, e := range exprs {
			if r.Intn(6) == 0 {
				ask(x, e)
			}
		}
	}
	for range 6000 {
		x := someType(r, 1+r.Intn(3))
		ask(x, fitting(r, x, 1+r.Intn(5)))
	}
	if fit < 8000 || lossless < 2500 {
		t.Errorf("only %d mappings fit, %d of them lossless", fit, lossless)
	}
}

// T4: a value that is none of the type may be refused: a mapping that does not fit is refused by a value of the type, where each type within has one.
func TestUnfitByValues(t *testing.T) {
	for _, x := range append(smallTypes(), deeperTypes()...) {
		for _, e := range leaves() {
			if _, bad := check.Infer(x, e); bad == api.OK || x.Kind == api.TypeAny || len(valuesOf(x)) == 0 {
				continue
			}
			if e.Op == api.OpSum && x.Kind == api.TypeList && (x.List[0].Kind == api.TypeAny || len(valuesOf(x.List[0])) == 0) {
				continue
			}
			refused := slices.ContainsFunc(valuesOf(x), func(v api.Value) bool {
				_, bad := done(e, v)
				return bad == api.ErrEvalType
			})
			if !refused {
				t.Errorf("P15.1: %s does not fit %s, but takes all its values", short(e), short(x))
			}
		}
	}
}
