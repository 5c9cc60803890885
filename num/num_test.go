package num_test

import (
	"math"
	"math/big"
	"math/rand"
	"strings"
	"testing"

	"calamus/api"
	"calamus/num"
)

var (
	zero = api.Num{Digits: "0"}
	one  = api.Num{Digits: "1"}
	half = api.Num{Digits: "5", Exp: -1}
)

// noNumbers are structs that are no numbers, each for a reason of its own.
func noNumbers() []api.Num {
	return []api.Num{
		{},
		{Neg: true},
		{Exp: 1},
		{Neg: true, Digits: "0"},
		{Digits: "0", Exp: 1},
		{Digits: "0", Exp: -1},
		{Digits: "00"},
		{Digits: "01"},
		{Digits: "10"},
		{Digits: "010"},
		{Digits: "-1"},
		{Digits: "+1"},
		{Digits: "1.5"},
		{Digits: "1e1"},
		{Digits: " 1"},
		{Digits: "1 "},
		{Digits: "1/1"},
		{Digits: "1:1"},
		{Digits: "/"},
		{Digits: ":"},
		{Digits: "a"},
		{Digits: "1\x001"},
		{Digits: "1\xff"},
		{Digits: "\u0661"}, // a digit of another script
		{Digits: nines(41)},
		{Digits: nines(5000)},
		{Digits: "1" + strings.Repeat("0", 39) + "1"},
		{Digits: "1", Exp: 401},
		{Digits: "1", Exp: -401},
		{Digits: "1", Exp: math.MaxInt},
		{Digits: "1", Exp: math.MinInt},
	}
}

// edgeNumbers are numbers at the limits, and some of every day.
func edgeNumbers() []api.Num {
	var l []api.Num
	for _, d := range []string{"1", "2", "5", "9", "11", "12", "15", "99", "101", "256", "18446744073709551615", nines(39), nines(40), "1" + strings.Repeat("0", 38) + "1", strings.Repeat("1234567891", 4)} {
		for _, x := range []int{-400, -399, -361, -360, -41, -40, -39, -22, -21, -20, -2, -1, 0, 1, 2, 19, 20, 21, 22, 39, 40, 41, 359, 360, 361, 399, 400} {
			l = append(l, api.Num{Digits: d, Exp: x}, api.Num{Neg: true, Digits: d, Exp: x})
		}
	}
	return append(l, zero)
}

func nines(k int) string { return strings.Repeat("9", k) }

func noughts(k int) string { return strings.Repeat("0", k) }

func negated(n api.Num) api.Num {
	if n != zero {
		n.Neg = !n.Neg
	}
	return n
}

// someNumber makes a number with few or many digits, near the exponent around.
func someNumber(r *rand.Rand, around int) api.Num {
	ks := []int{1, 1, 2, 3, 19, 20, 39, 40, 40}
	d := make([]byte, ks[r.Intn(len(ks))])
	style := r.Intn(3)
	for i := range d {
		switch style {
		case 0:
			d[i] = '9'
		case 1:
			d[i] = '0'
		default:
			d[i] = byte('0' + r.Intn(10))
		}
	}
	d[0], d[len(d)-1] = byte('1'+r.Intn(9)), byte('1'+r.Intn(9))
	x := max(-400, min(400, around+r.Intn(90)-45))
	return api.Num{Neg: r.Intn(2) == 0, Digits: string(d), Exp: x}
}

// scaled is n times ten to the power of up.
func scaled(n api.Num, up int) *big.Int {
	v, _ := new(big.Int).SetString(n.Digits, 10)
	v.Mul(v, power(n.Exp+up))
	if n.Neg {
		v.Neg(v)
	}
	return v
}

func power(k int) *big.Int {
	return new(big.Int).Exp(big.NewInt(10), big.NewInt(int64(k)), nil)
}

// wanted is the number v times ten to the power of exp, or ErrLimit.
func wanted(v *big.Int, exp int) (api.Num, api.Errno) {
	if v.Sign() == 0 {
		return zero, api.OK
	}
	s := new(big.Int).Abs(v).String()
	d := strings.TrimRight(s, "0")
	exp += len(s) - len(d)
	if len(d) > 40 || exp > 400 || exp < -400 {
		return api.Num{}, api.ErrLimit
	}
	return api.Num{Neg: v.Sign() < 0, Digits: d, Exp: exp}, api.OK
}

// P1.1.
func TestCheck(t *testing.T) {
	for _, n := range edgeNumbers() {
		if e := num.Check(n); e != api.OK {
			t.Errorf("Check(%+v) = %d", n, e)
		}
	}
	for _, n := range noNumbers() {
		if e := num.Check(n); e != api.ErrNumForm {
			t.Errorf("Check(%+v) = %d", n, e)
		}
	}
}

// P1.1: each byte, as the only digit, as the first, in between, as the last.
func TestCheckBytes(t *testing.T) {
	for c := range 256 {
		b := string([]byte{byte(c)})
		digit := c >= '0' && c <= '9'
		for d, good := range map[string]bool{b: digit, b + "1": digit && c != '0', "1" + b + "1": digit, "1" + b: digit && c != '0'} {
			if e := num.Check(api.Num{Digits: d}); (e == api.OK) != good {
				t.Errorf("Check(%q) = %d", d, e)
			}
		}
	}
}

// P1.6.
func TestIsInt(t *testing.T) {
	for _, n := range edgeNumbers() {
		if num.IsInt(n) != (n.Exp >= 0) {
			t.Errorf("IsInt(%+v) = %v", n, num.IsInt(n))
		}
	}
	for _, n := range noNumbers() {
		if num.IsInt(n) {
			t.Errorf("IsInt(%+v)", n)
		}
	}
}

// P1.4.
func TestCmp(t *testing.T) {
	rows := []struct {
		a, b api.Num
		want int
	}{
		{negated(one), zero, -1},
		{zero, negated(one), 1},
		{zero, zero, 0},
		{one, one, 0},
		{zero, one, -1},
		{one, zero, 1},
		{zero, api.Num{Digits: "1", Exp: -400}, -1},
		{zero, api.Num{Neg: true, Digits: "1", Exp: -400}, 1},
		{api.Num{Digits: "1", Exp: 1}, api.Num{Digits: "9"}, 1},
		{api.Num{Neg: true, Digits: "1", Exp: 1}, api.Num{Neg: true, Digits: "9"}, -1},
		{half, one, -1},
		{negated(half), negated(one), 1},
		{negated(one), half, -1},
		{api.Num{Digits: "12"}, api.Num{Digits: "121", Exp: -1}, -1},
		{api.Num{Digits: "13"}, api.Num{Digits: "121", Exp: -1}, 1},
		{api.Num{Digits: nines(40)}, api.Num{Digits: "1", Exp: 40}, -1},
		{api.Num{Digits: nines(40), Exp: 400}, api.Num{Digits: "1", Exp: 400}, 1},
		{api.Num{Digits: "1", Exp: -400}, api.Num{Digits: "1", Exp: 400}, -1},
	}
	for _, r := range rows {
		if c, e := num.Cmp(r.a, r.b); c != r.want || e != api.OK {
			t.Errorf("Cmp(%+v, %+v) = %d, %d", r.a, r.b, c, e)
		}
	}
}

// P1.4 and P1.7: the order is that of numbers.
func TestCmpIsTheOrderOfNumbers(t *testing.T) {
	l := edgeNumbers()
	whole := make([]*big.Int, len(l))
	for i, n := range l {
		whole[i] = scaled(n, 400)
	}
	for i, a := range l {
		for j, b := range l {
			want := whole[i].Cmp(whole[j])
			if c, e := num.Cmp(a, b); c != want || e != api.OK {
				t.Fatalf("Cmp(%+v, %+v) = %d, %d", a, b, c, e)
			}
		}
	}
}

// P1.4 and R1: whichever of the two is no number.
func TestCmpOfNoNumbers(t *testing.T) {
	for _, n := range noNumbers() {
		for _, p := range [][2]api.Num{{n, one}, {one, n}, {n, zero}, {zero, n}, {n, n}} {
			if c, e := num.Cmp(p[0], p[1]); c != 0 || e != api.ErrNumForm {
				t.Errorf("Cmp(%+v, %+v) = %d, %d", p[0], p[1], c, e)
			}
		}
	}
}
