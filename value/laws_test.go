package value_test

import (
	"math/rand"
	"testing"

	"calamus/api"
	"calamus/value"
)

// lawValues are values of all Kinds, some of them the same, built apart.
func lawValues() []api.Value {
	r := rand.New(rand.NewSource(47))
	all := append(someValues(), list(list(null), null), record("b a", null, null), tag("a", flag(true)), text("a"), raw("a"), float(1<<63))
	for range 100 {
		all = append(all, someValue(r, 3))
	}
	return all
}

// P4.5: Cmp is 0 just of values that are Equal, and turned round with its arguments.
func TestCmpAndEqual(t *testing.T) {
	all := lawValues()
	same := 0
	for i, a := range all {
		for k, b := range all {
			c, e := value.Cmp(a, b)
			d, f := value.Cmp(b, a)
			if e != api.OK || f != api.OK || c != -d || c < -1 || c > 1 {
				t.Errorf("P4.5: values %d and %d: Cmp = %d, %d, and turned %d, %d", i, k, c, e, d, f)
			}
			if (c == 0) != value.Equal(a, b) {
				t.Errorf("P4.5: values %d and %d: Cmp = %d, Equal = %v", i, k, c, value.Equal(a, b))
			}
			if c == 0 && i != k {
				same++
			}
		}
	}
	if same < 12 {
		t.Errorf("only %d pairs are the same", same)
	}
}

// P4.5: of three values, what is not behind the second, which is not behind the third, is not behind the third.
func TestCmpIsAnOrder(t *testing.T) {
	all := lawValues()
	ahead := make([][]bool, len(all))
	for i, a := range all {
		ahead[i] = make([]bool, len(all))
		for k, b := range all {
			c, _ := value.Cmp(a, b)
			ahead[i][k] = c <= 0
		}
	}
	for i := range all {
		for k := range all {
			if !ahead[i][k] {
				continue
			}
			for m := range all {
				if ahead[k][m] && !ahead[i][m] {
					t.Errorf("P4.5: values %d, %d and %d are in no order", i, k, m)
				}
			}
		}
	}
}
