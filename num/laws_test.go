package num_test

import (
	"math/rand"
	"testing"

	"calamus/api"
	"calamus/num"
)

// The examples of the chapter.
func TestExamples(t *testing.T) {
	for s, want := range map[string]api.Num{"1200": {Digits: "12", Exp: 2}, "-0.50": {Neg: true, Digits: "5", Exp: -1}, "1e3": {Digits: "1", Exp: 3}, "-0": {Digits: "0"}} {
		if n, e := num.Parse(s); n != want || e != api.OK {
			t.Errorf("Parse(%s) = %+v, %d", s, n, e)
		}
	}
	for s, want := range map[string]api.Errno{"01": 10, ".5": 10, "1.": 10, "+1": 10, "": 10, "1e401": 2} {
		if n, e := num.Parse(s); n != (api.Num{}) || e != want {
			t.Errorf("Parse(%s) = %+v, %d", s, n, e)
		}
	}
	for want, n := range map[string]api.Num{"1200": {Digits: "12", Exp: 2}, "-0.5": {Neg: true, Digits: "5", Exp: -1}, "0.0015": {Digits: "15", Exp: -4}, "1e21": {Digits: "1", Exp: 21}, "1.5e31": {Digits: "15", Exp: 30}} {
		if s, e := num.Print(n); s != want || e != api.OK {
			t.Errorf("Print(%+v) = %s, %d", n, s, e)
		}
	}
	if c, e := num.Cmp(negated(one), zero); c != -1 || e != api.OK {
		t.Errorf("Cmp(-1, 0) = %d, %d", c, e)
	}
	if c, e := num.Cmp(api.Num{Digits: "1", Exp: 1}, api.Num{Digits: "9"}); c != 1 || e != api.OK {
		t.Errorf("Cmp({1, 1}, {9, 0}) = %d, %d", c, e)
	}
	if s, e := num.Add(half, half); s != one || e != api.OK {
		t.Errorf("Add(0.5, 0.5) = %+v, %d", s, e)
	}
	if s, e := num.Add(api.Num{Digits: "1", Exp: 400}, one); s != (api.Num{}) || e != api.ErrLimit {
		t.Errorf("Add(1e400, 1) = %+v, %d", s, e)
	}
}

// The examples of the chapter, in bytes.
func TestExamplesOfBytes(t *testing.T) {
	whole := api.Num{Digits: "256"}
	if n, e := num.Of(true, []byte{1, 0}); n != negated(whole) || e != api.OK {
		t.Errorf("Of(true, 01 00) = %+v, %d", n, e)
	}
	if b, e := num.Bytes(whole); string(b) != "\x01\x00" || e != api.OK {
		t.Errorf("Bytes(256) = %x, %d", b, e)
	}
	if b, e := num.Bytes(half); len(b) != 0 || e != api.ErrNumInt {
		t.Errorf("Bytes(0.5) = %x, %d", b, e)
	}
	if b, e := num.Bytes(api.Num{Digits: "1", Exp: 40}); len(b) != 0 || e != api.ErrLimit {
		t.Errorf("Bytes(1e40) = %x, %d", b, e)
	}
}

// P1.7: what is printed is parsed as itself.
func TestPrintedIsParsed(t *testing.T) {
	r := rand.New(rand.NewSource(4))
	l := edgeNumbers()
	for range 20000 {
		l = append(l, someNumber(r, r.Intn(801)-400))
	}
	for _, n := range l {
		s, e := num.Print(n)
		if e != api.OK || s != printed(n) {
			t.Fatalf("Print(%+v) = %s, %d", n, s, e)
		}
		if back, e := num.Parse(s); back != n || e != api.OK {
			t.Fatalf("Parse(%s) = %+v, %d", s, back, e)
		}
	}
}

// P1.7: adding in either order is the same; a number and its opposite are 0; 0 changes nothing.
func TestSumsOfOpposites(t *testing.T) {
	for _, n := range edgeNumbers() {
		if s, e := num.Add(n, negated(n)); s != zero || e != api.OK {
			t.Errorf("Add(%+v, its opposite) = %+v, %d", n, s, e)
		}
		if s, e := num.Add(n, zero); s != n || e != api.OK {
			t.Errorf("Add(%+v, 0) = %+v, %d", n, s, e)
		}
		if s, e := num.Add(zero, n); s != n || e != api.OK {
			t.Errorf("Add(0, %+v) = %+v, %d", n, s, e)
		}
	}
	r := rand.New(rand.NewSource(5))
	for range 50000 {
		a, b := someNumber(r, 0), someNumber(r, 0)
		s, e := num.Add(a, b)
		if s2, e2 := num.Add(b, a); s != s2 || e != e2 {
			t.Fatalf("Add(%+v, %+v) = %+v, %d and %+v, %d", a, b, s, e, s2, e2)
		}
	}
}

// P1.7: the order is that of the sums, too: with the same added, the lesser stays the lesser.
func TestSumsKeepTheOrder(t *testing.T) {
	r := rand.New(rand.NewSource(6))
	taken := 0
	for range 50000 {
		a, b, c := someNumber(r, 0), someNumber(r, 0), someNumber(r, 0)
		if r.Intn(2) == 0 { // a neighbour of a
			b, _ = num.Add(a, api.Num{Neg: r.Intn(2) == 0, Digits: "1", Exp: a.Exp})
		}
		x, e := num.Add(a, c)
		y, f := num.Add(b, c)
		if num.Check(b) != api.OK || e != api.OK || f != api.OK {
			continue
		}
		taken++
		want, _ := num.Cmp(a, b)
		if got, e := num.Cmp(x, y); got != want || e != api.OK {
			t.Fatalf("%+v, %+v with %+v: %d, %d; want %d", a, b, c, got, e, want)
		}
	}
	if taken < 1000 {
		t.Errorf("only %d sums", taken)
	}
}
