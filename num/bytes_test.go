package num_test

import (
	"bytes"
	"math/big"
	"math/rand"
	"strings"
	"testing"

	"calamus/api"
	"calamus/num"
)

// P1.6.
func TestOf(t *testing.T) {
	rows := []struct {
		neg  bool
		b    string
		want api.Num
	}{
		{false, "", zero},
		{true, "", zero},
		{false, "\x00", zero},
		{true, "\x00\x00\x00", zero},
		{false, "\x01", one},
		{true, "\x01", negated(one)},
		{false, "\x0a", api.Num{Digits: "1", Exp: 1}},
		{false, "\x64", api.Num{Digits: "1", Exp: 2}},
		{false, "\xff", api.Num{Digits: "255"}},
		{true, "\x01\x00", api.Num{Neg: true, Digits: "256"}},
		{true, "\x00\x00\x01\x00", api.Num{Neg: true, Digits: "256"}},
		{false, "\x01\x02", api.Num{Digits: "258"}},
		{false, "\x03\xe8", api.Num{Digits: "1", Exp: 3}},
		{false, "\x7f\xff\xff\xff\xff\xff\xff\xff", api.Num{Digits: "9223372036854775807"}},
		{false, "\xff\xff\xff\xff\xff\xff\xff\xff", api.Num{Digits: "18446744073709551615"}},
		{false, "\x01\x00\x00\x00\x00\x00\x00\x00\x00", api.Num{Digits: "18446744073709551616"}},
		{true, strings.Repeat("\x00", 1<<20) + "\x07", api.Num{Neg: true, Digits: "7"}},
	}
	for _, r := range rows {
		if n, e := num.Of(r.neg, []byte(r.b)); n != r.want || e != api.OK {
			t.Errorf("Of(%v, %.60x) = %+v, %d", r.neg, r.b, n, e)
		}
	}
	if n, e := num.Of(true, nil); n != zero || e != api.OK {
		t.Errorf("Of(true, nil) = %+v, %d", n, e)
	}
}

// P1.6: 40 digits and 41, and noughts up to an Exp of 400 and beyond.
func TestOfEdges(t *testing.T) {
	most, _ := new(big.Int).SetString(nines(40), 10)
	more, _ := new(big.Int).SetString(nines(41), 10)
	next := new(big.Int).Add(power(40), big.NewInt(1))
	for _, v := range []*big.Int{big.NewInt(1), big.NewInt(9), big.NewInt(12), power(39), most, power(40), next, more, power(41)} {
		for _, x := range []int{0, 1, 359, 360, 361, 399, 400, 401, 402, 440} {
			whole := new(big.Int).Mul(v, power(x))
			for _, d := range []int64{-1, 0, 1} {
				tryOf(t, new(big.Int).Add(whole, big.NewInt(d)))
			}
		}
	}
}

// P1.6: all bytes 0 or 255, of all lengths.
func TestOfLengths(t *testing.T) {
	for k := range 300 {
		tryOf(t, new(big.Int).SetBytes(bytes.Repeat([]byte{255}, k)))
		tryOf(t, new(big.Int).SetBytes(append([]byte{1}, make([]byte, k)...)))
	}
	for _, k := range []int{182, 183, 184, 185, 4096, 65536, 1 << 20} {
		if n, e := num.Of(false, bytes.Repeat([]byte{1}, k)); n != (api.Num{}) || e != api.ErrLimit {
			t.Errorf("Of(%d bytes) = %+v, %d", k, n, e)
		}
	}
}

func tryOf(t *testing.T, v *big.Int) {
	want, we := wanted(v, 0)
	if n, e := num.Of(false, v.Bytes()); n != want || e != we {
		t.Fatalf("Of(%x) = %+v, %d; want %+v, %d", v.Bytes(), n, e, want, we)
	}
	if want != zero && we == api.OK {
		want.Neg = true
	}
	if n, e := num.Of(true, append([]byte{0, 0}, v.Bytes()...)); n != want || e != we {
		t.Fatalf("Of(true, 0000%x) = %+v, %d; want %+v, %d", v.Bytes(), n, e, want, we)
	}
}

// P1.6.
func TestBytes(t *testing.T) {
	rows := []struct {
		n    api.Num
		want string
	}{
		{zero, ""},
		{one, "\x01"},
		{negated(one), "\x01"},
		{api.Num{Digits: "255"}, "\xff"},
		{api.Num{Digits: "256"}, "\x01\x00"},
		{api.Num{Neg: true, Digits: "256"}, "\x01\x00"},
		{api.Num{Digits: "1", Exp: 3}, "\x03\xe8"},
		{api.Num{Digits: "18446744073709551615"}, "\xff\xff\xff\xff\xff\xff\xff\xff"},
		{api.Num{Digits: "18446744073709551616"}, "\x01\x00\x00\x00\x00\x00\x00\x00\x00"},
		{api.Num{Digits: nines(40)}, "\x1d\x63\x29\xf1\xc3\x5c\xa4\xbf\xab\xb9\xf5\x60\xff\xff\xff\xff\xff"},
		{api.Num{Digits: "1", Exp: 39}, string(power(39).Bytes())},
	}
	for _, r := range rows {
		if b, e := num.Bytes(r.n); string(b) != r.want || e != api.OK {
			t.Errorf("Bytes(%+v) = %x, %d", r.n, b, e)
		}
	}
}

// P1.6: no number, ahead of one that is not whole, ahead of one that is too long.
func TestBytesRefused(t *testing.T) {
	rows := []struct {
		n    api.Num
		want api.Errno
	}{
		{half, api.ErrNumInt},
		{negated(half), api.ErrNumInt},
		{api.Num{Digits: nines(40), Exp: -1}, api.ErrNumInt},
		{api.Num{Digits: "1", Exp: -400}, api.ErrNumInt},
		{api.Num{Digits: "1", Exp: 40}, api.ErrLimit},
		{api.Num{Neg: true, Digits: "1", Exp: 40}, api.ErrLimit},
		{api.Num{Digits: "12", Exp: 39}, api.ErrLimit},
		{api.Num{Digits: nines(40), Exp: 1}, api.ErrLimit},
		{api.Num{Digits: nines(39), Exp: 2}, api.ErrLimit},
		{api.Num{Digits: nines(40), Exp: 400}, api.ErrLimit},
	}
	for _, n := range noNumbers() {
		rows = append(rows, struct {
			n    api.Num
			want api.Errno
		}{n, api.ErrNumForm})
	}
	for _, r := range rows {
		if b, e := num.Bytes(r.n); len(b) != 0 || e != r.want {
			t.Errorf("Bytes(%+v) = %x, %d; want %d", r.n, b, e, r.want)
		}
	}
}

// P1.6 and P1.7: of all numbers that have bytes, and of no others; they are read as the number they were made of.
func TestBytesAndBack(t *testing.T) {
	r := rand.New(rand.NewSource(3))
	l := edgeNumbers()
	for range 20000 {
		l = append(l, someNumber(r, 20))
	}
	for _, n := range l {
		b, e := num.Bytes(n)
		want := api.OK
		switch {
		case n.Exp < 0:
			want = api.ErrNumInt
		case len(n.Digits)+n.Exp > 40:
			want = api.ErrLimit
		}
		if e != want {
			t.Fatalf("Bytes(%+v): %d; want %d", n, e, want)
		}
		if e != api.OK {
			continue
		}
		if v := scaled(n, 0); !bytes.Equal(b, v.Bytes()) {
			t.Fatalf("Bytes(%+v) = %x", n, b)
		}
		if back, e := num.Of(n.Neg, b); back != n || e != api.OK {
			t.Fatalf("Of(Bytes(%+v)) = %+v, %d", n, back, e)
		}
	}
}

// R2: what is handed in is not written into, nor its spare room; what comes out is new memory.
func TestBytesAreNobodyElses(t *testing.T) {
	room := []byte{0, 1, 0, 77, 88}
	in := room[:3]
	if n, e := num.Of(false, in); n != (api.Num{Digits: "256"}) || e != api.OK {
		t.Errorf("%+v, %d", n, e)
	}
	if !bytes.Equal(room, []byte{0, 1, 0, 77, 88}) {
		t.Errorf("written into: %v", room)
	}
	n := api.Num{Digits: "258"}
	first, _ := num.Bytes(n)
	first[0], first[1] = 9, 9
	if second, e := num.Bytes(n); !bytes.Equal(second, []byte{1, 2}) || e != api.OK {
		t.Errorf("kept: %v, %d", second, e)
	}
}
