package num_test

import (
	"math/big"
	"math/rand"
	"regexp"
	"strconv"
	"strings"
	"testing"

	"calamus/api"
	"calamus/num"
)

// P1.2: ordinary texts, and the edges of what a number is.
func TestParse(t *testing.T) {
	for s, want := range map[string]api.Num{
		"1200":                             {Digits: "12", Exp: 2},
		"-0.50":                            {Neg: true, Digits: "5", Exp: -1},
		"1e3":                              {Digits: "1", Exp: 3},
		"-0":                               zero,
		"0":                                zero,
		"0.0":                              zero,
		"-0.000":                           zero,
		"0e0":                              zero,
		"-0e+7":                            zero,
		"0E-999":                           zero,
		"0e99999":                          zero,
		"0.00e" + strings.Repeat("9", 500): zero,
		"7":                                {Digits: "7"},
		"-7":                               {Neg: true, Digits: "7"},
		"10":                               {Digits: "1", Exp: 1},
		"0.1":                              {Digits: "1", Exp: -1},
		"0.10":                             {Digits: "1", Exp: -1},
		"10.0":                             {Digits: "1", Exp: 1},
		"10.010":                           {Digits: "1001", Exp: -2},
		"0.0015":                           {Digits: "15", Exp: -4},
		"1.5E+31":                          {Digits: "15", Exp: 30},
		"1.5e-3":                           {Digits: "15", Exp: -4},
		"1e00":                             {Digits: "1"},
		"1E-0":                             {Digits: "1"},
		"1e+007":                           {Digits: "1", Exp: 7},
		"1e-007":                           {Digits: "1", Exp: -7},
		"1e400":                            {Digits: "1", Exp: 400},
		"1e-400":                           {Digits: "1", Exp: -400},
		"10e399":                           {Digits: "1", Exp: 400},
		"0.1e401":                          {Digits: "1", Exp: 400},
		"0.1e-399":                         {Digits: "1", Exp: -400},
		"10e-401":                          {Digits: "1", Exp: -400},
		"1.50e401":                         {Digits: "15", Exp: 400},
		nines(40):                          {Digits: nines(40)},
		"-" + nines(40):                    {Neg: true, Digits: nines(40)},
		nines(40) + "e400":                 {Digits: nines(40), Exp: 400},
		nines(40) + "e-400":                {Digits: nines(40), Exp: -400},
		"0." + nines(40):                   {Digits: nines(40), Exp: -40},
		nines(20) + "." + nines(20):        {Digits: nines(40), Exp: -20},
		nines(40) + "00.000":               {Digits: nines(40), Exp: 2},
		"1" + noughts(400):                 {Digits: "1", Exp: 400},
		"1" + noughts(500) + "e-500":       {Digits: "1"},
		"1" + noughts(501) + "e-901":       {Digits: "1", Exp: -400},
		"0." + noughts(500) + "1e501":      {Digits: "1"},
		"0." + noughts(499) + "1e900":      {Digits: "1", Exp: 400},
		"0." + noughts(399) + "1":          {Digits: "1", Exp: -400},
		"1e" + noughts(509) + "1":          {Digits: "1", Exp: 1},
		"1." + noughts(510):                {Digits: "1"},
		"-1." + noughts(509):               {Neg: true, Digits: "1"},
		"1e-" + noughts(506) + "400":       {Digits: "1", Exp: -400},
		"1" + noughts(38) + "1." + noughts(300) + "e5": {Digits: "1" + noughts(38) + "1", Exp: 5},
	} {
		if len(s) > 512 {
			t.Fatalf("%d bytes: %s", len(s), s)
		}
		if n, e := num.Parse(s); n != want || e != api.OK {
			t.Errorf("Parse(%s) = %+v, %d", s, n, e)
		}
	}
}

// P1.2: texts of the form, beyond a limit.
func TestParseLimits(t *testing.T) {
	for _, s := range []string{
		"1e401", "1e-401", "-1e401", "10e400", "0.1e-400", "1.5e-400", "1e0401",
		"1e1000000", "1e-1000000",
		"1e2147483648", "1e-2147483649", "1e9223372036854775808", "1e18446744073709551616", "1e-18446744073709551617",
		"1e36893488147419103233",
		"1e" + nines(510), "1e-" + nines(509),
		nines(41), "-" + nines(41), "0." + nines(41), nines(20) + "." + nines(21), nines(41) + "e-20",
		"1" + noughts(39) + "1", "1." + noughts(39) + "1",
		"1" + noughts(401), "0." + noughts(400) + "1", "1" + noughts(500) + "e-99", "0." + noughts(498) + "1e900",
		nines(512),
		"1." + noughts(511), "0." + noughts(511), "1e" + noughts(511), "-0." + noughts(510), "1" + noughts(512),
		"0." + noughts(1<<20),
		nines(1 << 20),
	} {
		if n, e := num.Parse(s); n != (api.Num{}) || e != api.ErrLimit {
			t.Errorf("Parse(%.60s, %d bytes) = %+v, %d", s, len(s), n, e)
		}
	}
}

// P1.2: texts that are none, and that stay so beyond a limit.
func TestParseForm(t *testing.T) {
	for _, s := range []string{
		"", "-", "+", ".", "e", "E", "--1", "+1", "-+1", "01", "00", "-01", "-00", "00.5", ".5", "-.5", "1.", "-1.", "1.e5", "1..5", "1.5.5", "1.-5",
		"e5", "1e", "1E", "1e+", "1e-", "1e+-5", "1e--5", "1e5.", "1e5.5", "1e5e5", "1e 5", "1.5e", "0e", "0x10", "1_000", "1,5",
		" 1", "1 ", "1\n", "\t1", "1\x00", "\x001", "1\xff", "NaN", "Infinity", "-Infinity", "inf", "null", "\u0661", "1\u0660", "1e\u0661", "1.\u0661",
		"1/", "1:", "/", ":", "1e/", "1e:", "1./", "1.:",
		"1e401x", nines(41) + ".", "01e401",
		nines(512) + "x", nines(600) + ".", "0" + nines(600), "1e" + nines(600) + "-", "-" + strings.Repeat("0", 600), strings.Repeat("-", 600),
	} {
		if n, e := num.Parse(s); n != (api.Num{}) || e != api.ErrNumForm {
			t.Errorf("Parse(%.60q, %d bytes) = %+v, %d", s, len(s), n, e)
		}
	}
}

var numberText = regexp.MustCompile(`^(-?)(0|[1-9][0-9]*)(?:\.([0-9]+))?(?:[eE]([+-]?[0-9]+))?$`)

// parsed is Parse by other means.
func parsed(s string) (api.Num, api.Errno) {
	m := numberText.FindStringSubmatch(s)
	if m == nil || strings.HasSuffix(s, "\n") {
		return api.Num{}, api.ErrNumForm
	}
	if len(s) > 512 {
		return api.Num{}, api.ErrLimit
	}
	v, _ := new(big.Int).SetString(m[1]+m[2]+m[3], 10)
	x, ok := new(big.Int).SetString(m[4], 10)
	if !ok {
		x = new(big.Int)
	}
	if x.BitLen() > 20 {
		x.SetInt64(int64(x.Sign()) * 1000000)
	}
	return wanted(v, int(x.Int64())-len(m[3]))
}

func tryParse(t *testing.T, s string) {
	want, we := parsed(s)
	if n, e := num.Parse(s); n != want || e != we {
		t.Fatalf("Parse(%q) = %+v, %d; want %+v, %d", s, n, e, want, we)
	}
}

// P1.2: all short texts of the bytes that matter.
func TestParseShortTexts(t *testing.T) {
	const bytes = "-+.eE019x"
	var grow func(s string, left int)
	grow = func(s string, left int) {
		tryParse(t, s)
		for i := range len(bytes) {
			if left > 0 {
				grow(s+bytes[i:i+1], left-1)
			}
		}
	}
	grow("", 5)
}

// P1.2: longer texts, of pieces.
func TestParseLongTexts(t *testing.T) {
	r := rand.New(rand.NewSource(1))
	digits := func() string {
		k := []int{0, 1, 2, 5, 19, 39, 40, 41, 120, 400, 470}[r.Intn(11)]
		b := make([]byte, k)
		for i := range b {
			b[i] = '0'
			if r.Intn(10) == 0 {
				b[i] = byte('0' + r.Intn(10))
			}
		}
		return string(b)
	}
	heads := []string{"", "-", "0", "1", "-1", "-0", "+"}
	points := []string{"", ".", "."}
	powers := []string{"", "", "e", "E", "e+", "e-", "E-0", "e4", "e-4", "e39", "e-35", "e40", "e-40"}
	tails := []string{"", "", "0", "1", "00", "9", "05"}
	for range 60000 {
		s := heads[r.Intn(len(heads))] + digits() + points[r.Intn(len(points))] + digits() + powers[r.Intn(len(powers))] + tails[r.Intn(len(tails))]
		tryParse(t, s)
	}
}

func FuzzParse(f *testing.F) {
	for _, s := range []string{"", "-0.50", "1e401", "1.5E+31", "01", nines(41), "1e" + nines(30)} {
		f.Add(s)
	}
	f.Fuzz(tryParse)
}

// P1.3.
func TestPrint(t *testing.T) {
	for want, n := range map[string]api.Num{
		"0":                          zero,
		"7":                          {Digits: "7"},
		"-7":                         {Neg: true, Digits: "7"},
		"1200":                       {Digits: "12", Exp: 2},
		"-1200":                      {Neg: true, Digits: "12", Exp: 2},
		"-0.5":                       {Neg: true, Digits: "5", Exp: -1},
		"0.0015":                     {Digits: "15", Exp: -4},
		"1.5":                        {Digits: "15", Exp: -1},
		"0.15":                       {Digits: "15", Exp: -2},
		"0.015":                      {Digits: "15", Exp: -3},
		"123.456":                    {Digits: "123456", Exp: -3},
		"100000000000000000000":      {Digits: "1", Exp: 20},
		"1e21":                       {Digits: "1", Exp: 21},
		"-1e21":                      {Neg: true, Digits: "1", Exp: 21},
		"120000000000000000000":      {Digits: "12", Exp: 19},
		"1.2e21":                     {Digits: "12", Exp: 20},
		"1.5e31":                     {Digits: "15", Exp: 30},
		"123456789012345678901":      {Digits: "123456789012345678901"},
		"1.234567890123456789012e21": {Digits: "1234567890123456789012"},
		"0.000000000000000000001":    {Digits: "1", Exp: -21},
		"1e-22":                      {Digits: "1", Exp: -22},
		"-1e-22":                     {Neg: true, Digits: "1", Exp: -22},
		"0.000000000000000000012":    {Digits: "12", Exp: -21},
		"1.2e-21":                    {Digits: "12", Exp: -22},
		"0.999999999999999999999":    {Digits: nines(21), Exp: -21},
		"9.999999999999999999999":    {Digits: nines(22), Exp: -21},
		nines(39) + ".9":             {Digits: nines(40), Exp: -1},
		nines(19) + "." + nines(21):  {Digits: nines(40), Exp: -21},
		"9." + nines(39) + "e17":     {Digits: nines(40), Exp: -22},
		"9." + nines(39) + "e39":     {Digits: nines(40)},
		"9." + nines(39) + "e439":    {Digits: nines(40), Exp: 400},
		"-9." + nines(39) + "e-361":  {Neg: true, Digits: nines(40), Exp: -400},
		"9." + nines(39) + "e-1":     {Digits: nines(40), Exp: -40},
		"9." + nines(39) + "e0":      {Digits: nines(40), Exp: -39},
		"1e400":                      {Digits: "1", Exp: 400},
		"1e-400":                     {Digits: "1", Exp: -400},
	} {
		if s, e := num.Print(n); s != want || e != api.OK {
			t.Errorf("Print(%+v) = %s, %d; want %s", n, s, e, want)
		}
	}
	for _, n := range noNumbers() {
		if s, e := num.Print(n); s != "" || e != api.ErrNumForm {
			t.Errorf("Print(%+v) = %s, %d", n, s, e)
		}
	}
}

// printed is Print's rule, read off the digits' places.
func printed(n api.Num) string {
	sign, k, x := "", len(n.Digits), n.Exp
	if n.Neg {
		sign = "-"
	}
	if x >= 0 && k+x <= 21 {
		return sign + n.Digits + strings.Repeat("0", x)
	}
	if x < 0 && x >= -21 {
		d := strings.Repeat("0", max(0, 1-x-k)) + n.Digits
		return sign + d[:len(d)+x] + "." + d[len(d)+x:]
	}
	return sign + strings.TrimSuffix(n.Digits[:1]+"."+n.Digits[1:], ".") + "e" + strconv.Itoa(x+k-1)
}

// P1.3: all lengths with all exponents; and P1.7: each text is parsed as its number.
func TestPrintAllShapes(t *testing.T) {
	digits := strings.Repeat("1234567891", 4)
	for k := 1; k <= 40; k++ {
		for x := -400; x <= 400; x++ {
			n := api.Num{Neg: x%2 == 0, Digits: digits[:k-1] + "7", Exp: x}
			s, e := num.Print(n)
			if s != printed(n) || e != api.OK {
				t.Fatalf("Print(%+v) = %s, %d; want %s", n, s, e, printed(n))
			}
			if back, e := num.Parse(s); back != n || e != api.OK {
				t.Fatalf("Parse(%s) = %+v, %d; want %+v", s, back, e, n)
			}
		}
	}
}
