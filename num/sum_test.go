package num_test

import (
	"math/rand"
	"testing"

	"calamus/api"
	"calamus/num"
)

// P1.5.
func TestAdd(t *testing.T) {
	rows := []struct{ a, b, sum string }{
		{"0", "0", "0"},
		{"0", "5", "5"},
		{"0.5", "0.5", "1"},
		{"1", "2", "3"},
		{"-1", "2", "1"},
		{"1", "-2", "-1"},
		{"-1", "-2", "-3"},
		{"1", "-1", "0"},
		{"-0.001", "0.001", "0"},
		{"999", "1", "1000"},
		{"1000", "-1", "999"},
		{"1000", "-999", "1"},
		{"123", "-23", "100"},
		{"0.1", "0.2", "0.3"},
		{"1e400", "0", "1e400"},
		{"0", "-1e-400", "-1e-400"},
		{nines(40) + "e400", "0", nines(40) + "e400"},
		{nines(40) + "e-400", "0", nines(40) + "e-400"},
		{"4e400", "5e400", "9e400"},
		{"9e400", "-8e400", "1e400"},
		{"1e-400", "-3e-400", "-2e-400"},
		{nines(40), "1", "1e40"},
		{"-" + nines(40), "-1", "-1e40"},
		{nines(40) + "e360", "1e360", "1e400"},
		{"1e40", "-1", nines(40)},
		{"-1e40", "1", "-" + nines(40)},
		{"1e39", "1", "1" + noughts(38) + "1"},
		{nines(40), "-" + nines(40), "0"},
		{nines(40), "-" + nines(39), "9e39"},
		{"1e41", "-" + nines(40) + "0", "10"},
		{"1e-360", "-1e-400", nines(40) + "e-400"},
		{"5e399", "5e399", "1e400"},
	}
	for _, r := range rows {
		a, b, want := parse(t, r.a), parse(t, r.b), parse(t, r.sum)
		if s, e := num.Add(a, b); s != want || e != api.OK {
			t.Errorf("Add(%s, %s) = %+v, %d; want %s", r.a, r.b, s, e, r.sum)
		}
		if s, e := num.Add(b, a); s != want || e != api.OK {
			t.Errorf("Add(%s, %s) = %+v, %d; want %s", r.b, r.a, s, e, r.sum)
		}
	}
}

func parse(t *testing.T, s string) api.Num {
	n, e := num.Parse(s)
	if e != api.OK {
		t.Fatalf("Parse(%s): %d", s, e)
	}
	return n
}

// P1.5: sums that are no numbers.
func TestAddLimits(t *testing.T) {
	rows := [][2]string{
		{"1e400", "1"},
		{"1e400", "-1"},
		{"1e400", "1e-400"},
		{nines(40) + "e400", nines(40) + "e-400"},
		{"5e400", "5e400"},
		{"9e400", "1e400"},
		{"-9e400", "-1e400"},
		{nines(40) + "e400", "1e400"},
		{nines(40) + "e361", "1e361"},
		{"1e40", "1"},
		{"1e41", "-1"},
		{"1e41", "1"},
		{"1e42", "-1"},
		{"1e42", "1"},
		{"1e43", "-1"},
		{nines(40), "0.1"},
		{nines(40), "-0.1"},
		{nines(40), "2"},
		{nines(40), "1e39"},
		{"1e-359", "-1e-400"},
		{"1e-360", "1e-400"},
		{nines(40) + "00", "1"},
	}
	for _, r := range rows {
		a, b := parse(t, r[0]), parse(t, r[1])
		if s, e := num.Add(a, b); s != (api.Num{}) || e != api.ErrLimit {
			t.Errorf("Add(%s, %s) = %+v, %d", r[0], r[1], s, e)
		}
		if s, e := num.Add(b, a); s != (api.Num{}) || e != api.ErrLimit {
			t.Errorf("Add(%s, %s) = %+v, %d", r[1], r[0], s, e)
		}
	}
}

// added is Add by other means.
func added(a, b api.Num) (api.Num, api.Errno) {
	low := min(a.Exp, b.Exp)
	v := scaled(a, -low)
	return wanted(v.Add(v, scaled(b, -low)), low)
}

func tryAdd(t *testing.T, a, b api.Num) {
	want, we := added(a, b)
	if s, e := num.Add(a, b); s != want || e != we {
		t.Fatalf("Add(%+v, %+v) = %+v, %d; want %+v, %d", a, b, s, e, want, we)
	}
}

// P1.5: numbers at the limits, each with a third of the others.
func TestAddEdges(t *testing.T) {
	l := edgeNumbers()
	for i, a := range l {
		for j := i % 3; j < len(l); j += 3 {
			tryAdd(t, a, l[j])
		}
	}
}

// P1.5: numbers whose digits overlap, touch, or stand a little apart.
func TestAddMany(t *testing.T) {
	r := rand.New(rand.NewSource(2))
	for range 200000 {
		around := []int{-400, -30, 0, 30, 360, 400}[r.Intn(6)]
		tryAdd(t, someNumber(r, around), someNumber(r, around))
	}
}

// P1.5 and R1: whichever of the two is no number.
func TestAddOfNoNumbers(t *testing.T) {
	for _, n := range noNumbers() {
		for _, p := range [][2]api.Num{{n, one}, {one, n}, {n, zero}, {zero, n}, {n, n}, {n, {Digits: "1", Exp: 400}}} {
			if s, e := num.Add(p[0], p[1]); s != (api.Num{}) || e != api.ErrNumForm {
				t.Errorf("Add(%+v, %+v) = %+v, %d", p[0], p[1], s, e)
			}
		}
	}
}
