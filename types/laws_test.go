package types_test

import (
	"math/rand"
	"slices"
	"testing"

	"calamus/api"
	"calamus/types"
)

// isSub is Sub of types.
func isSub(t *testing.T, a, b api.Type) bool {
	t.Helper()
	is, e := types.Sub(a, b)
	if e != api.OK {
		t.Fatalf("P11.3: Sub = %d", e)
	}
	return is
}

// hasValue is Has of a type and a value.
func hasValue(t *testing.T, x api.Type, v api.Value) bool {
	t.Helper()
	is, e := types.Has(x, v)
	if e != api.OK {
		t.Fatalf("P11.2: Has = %d", e)
	}
	return is
}

// hasNone tells whether there is a union without names in t: that is where being part says less than the values do.
func hasNone(t api.Type) bool {
	return t.Kind == api.TypeUnion && len(t.Names) == 0 || slices.ContainsFunc(t.List, hasNone)
}

// P11.5: if one type is part of another one, that has all its values; and if not, there is a value that tells them apart, unless a union has none.
func TestPartsByValues(t *testing.T) {
	all, values := smallTypes(), smallValues()
	values = append(values, list(list(null)), record("a", list(null)), record("b", list(null)), tag("a", list(null)), tag("b", list(null)), record("a b", list(null), null), record("a b", null, list(null)))
	for _, name := range []string{"a b", "b a"} {
		for _, v := range scalars() {
			values = append(values, record(name, v, list(null)), record(name, list(null), v))
		}
		values = append(values, record(name, list(null), list()), record(name, list(), list(null)), record(name, list(null), record("")), record(name, record(""), list(null)), record(name, list(null), list(null)))
	}
	of := make([][]bool, len(all))
	for i, x := range all {
		for _, v := range values {
			of[i] = append(of[i], hasValue(t, x, v))
		}
	}
	for i, a := range all {
		for k, b := range all {
			within := true
			for n := range values {
				within = within && (!of[i][n] || of[k][n])
			}
			is := isSub(t, a, b)
			if is && !within {
				t.Errorf("P11.5: %v is part of %v, which has not all its values", a, b)
			}
			if !is && within && !hasNone(a) && !hasNone(b) {
				t.Errorf("P11.3: %v is no part of %v, but no value tells them apart", a, b)
			}
		}
	}
}

// P11.5 of types of all sorts: what is made wider has each value, and being part goes on.
func TestPartsGoOn(t *testing.T) {
	r := rand.New(rand.NewSource(117))
	for range 5000 {
		a := someType(r, 5)
		b := widened(r, a)
		c := widened(r, b)
		if !isSub(t, a, a) || !isSub(t, a, b) || !isSub(t, b, c) || !isSub(t, a, c) {
			t.Errorf("P11.5: %v, %v and %v are not part of one another", a, b, c)
		}
		for range 3 {
			v, ok := valueOf(r, a)
			if ok && (!hasValue(t, a, v) || !hasValue(t, b, v) || !hasValue(t, c, v)) {
				t.Errorf("P11.5: %v is no value of %v, %v and %v", v, a, b, c)
			}
		}
	}
}

// P11.5: a type is part of itself, and being part goes on, of all small types.
func TestPartIsAnOrder(t *testing.T) {
	all := append(smallTypes(), someTypes()...)
	part := make([][]bool, len(all))
	for i, a := range all {
		for _, b := range all {
			part[i] = append(part[i], isSub(t, a, b))
		}
		if !part[i][i] {
			t.Errorf("P11.5: %v is no part of itself", a)
		}
	}
	for i := range all {
		for k := range all {
			if !part[i][k] {
				continue
			}
			for m := range all {
				if part[k][m] && !part[i][m] {
					t.Errorf("P11.5: %v, %v and %v: being part does not go on", all[i], all[k], all[m])
				}
			}
		}
	}
}

// askJoin asks that both are part of their Join, which is a type within the limits.
func askJoin(t *testing.T, a, b api.Type) api.Type {
	t.Helper()
	j, e := types.Join(a, b)
	if e != api.OK || types.Check(j) != api.OK {
		t.Fatalf("P11.4: Join(%v, %v) = %v, %d", a, b, j, e)
	}
	if !isSub(t, a, j) || !isSub(t, b, j) {
		t.Errorf("P11.5: %v and %v are not part of their Join, %v", a, b, j)
	}
	return j
}

// P11.5: both types are part of their Join, which has the values of both, whichever comes first.
func TestJoinHasBoth(t *testing.T) {
	all := smallTypes()
	for _, a := range all {
		for _, b := range all {
			j, k := askJoin(t, a, b), askJoin(t, b, a)
			if !isSub(t, j, k) || !isSub(t, k, j) {
				t.Errorf("P11.4: Join(%v, %v), turned round, is another one: %v, %v", a, b, j, k)
			}
		}
	}
	r := rand.New(rand.NewSource(118))
	for range 10000 {
		a, b := someType(r, 4), someType(r, 4)
		j := askJoin(t, a, b)
		for _, x := range []api.Type{a, b} {
			if v, ok := valueOf(r, x); ok && !hasValue(t, j, v) {
				t.Errorf("P11.5: %v of %v is no value of the Join with the other, %v", v, x, j)
			}
		}
	}
	for _, a := range someTypes() {
		for _, b := range append(someTypes(), plainTypes()...) {
			askJoin(t, a, b)
		}
	}
}
