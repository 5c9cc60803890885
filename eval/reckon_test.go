package eval_test

import (
	"math/big"
	"math/rand"
	"slices"
	"strings"
	"testing"

	"calamus/api"
	"calamus/json"
	"calamus/lang"
	"calamus/num"
	"calamus/value"
)

// What Run answers is reckoned here once more by the chapter's table: errors are handed on, all that a mapping makes is put to value.Check, and sums are those of whole numbers of the smallest part that a number has.

// reckon is what e makes of v, or the first error.
func reckon(e api.Expr, v api.Value) (api.Value, api.Errno) {
	w, bad := reckonUnbound(e, v)
	if bad == api.OK && value.Check(w) != api.OK {
		return api.Value{}, api.ErrLimit
	}
	return w, bad
}

func reckonUnbound(e api.Expr, v api.Value) (api.Value, api.Errno) {
	switch e.Op {
	case api.OpId:
		return v, api.OK
	case api.OpConst:
		return e.Value, api.OK
	case api.OpTag:
		return tagged(e.Name, v), api.OK
	case api.OpGet:
		for i, name := range v.Names {
			if name == e.Name {
				return v.List[i], api.OK
			}
		}
	case api.OpCase:
		for i, name := range e.Names {
			if v.Kind == api.KindTag && name == v.Text {
				return reckon(e.List[i], v.List[0])
			}
		}
	case api.OpCount:
		if v.Kind == api.KindList {
			return fromBig(new(big.Int).Mul(big.NewInt(int64(len(v.List))), power(400)))
		}
	case api.OpSum:
		return reckonSum(v)
	case api.OpToText, api.OpToNum:
		return reckonScalar(e.Op, v)
	default:
		return reckonParts(e, v)
	}
	return api.Value{}, api.ErrEvalType
}

// reckonParts is the same of the Ops that do several mappings, or one several times.
func reckonParts(e api.Expr, v api.Value) (api.Value, api.Errno) {
	made := api.Value{Kind: api.KindRecord, Names: e.Names}
	var ins []api.Value
	var exprs []api.Expr
	switch {
	case e.Op == api.OpRecord:
		exprs, ins = e.List, times(len(e.List), v)
	case e.Op == api.OpMap && v.Kind == api.KindList:
		made, exprs, ins = list(), slices.Repeat(e.List, len(v.List)), v.List
	case e.Op == api.OpPipe && len(e.List) == 1:
		return reckon(e.List[0], v)
	case e.Op == api.OpPipe:
		w, bad := reckon(e.List[0], v)
		if bad != api.OK {
			return w, bad
		}
		return reckonParts(pipe(e.List[1:]...), w)
	default:
		return api.Value{}, api.ErrEvalType
	}
	for i, in := range ins {
		w, bad := reckon(exprs[i], in)
		if bad != api.OK {
			return w, bad
		}
		made.List = append(made.List, w)
	}
	return made, api.OK
}

func reckonSum(v api.Value) (api.Value, api.Errno) {
	if v.Kind != api.KindList {
		return api.Value{}, api.ErrEvalType
	}
	all, so := new(big.Int), number("0", 0)
	for _, w := range v.List {
		if w.Kind != api.KindNum {
			return api.Value{}, api.ErrEvalType
		}
		bad := api.OK
		if so, bad = fromBig(all.Add(all, toBig(w.Num))); bad != api.OK {
			return api.Value{}, bad
		}
	}
	return so, api.OK
}

func power(n int) *big.Int { return new(big.Int).Exp(big.NewInt(10), big.NewInt(int64(n)), nil) }

// toBig is how many times 1e-400 a number is.
func toBig(n api.Num) *big.Int {
	b, _ := new(big.Int).SetString(n.Digits, 10)
	if n.Neg {
		b.Neg(b)
	}
	return b.Mul(b, power(n.Exp+400))
}

// fromBig is the number again, or ErrEvalCoerce, if it is none.
func fromBig(b *big.Int) (api.Value, api.Errno) {
	if b.Sign() == 0 {
		return number("0", 0), api.OK
	}
	s := new(big.Int).Abs(b).String()
	digits := strings.TrimRight(s, "0")
	if exp := len(s) - len(digits) - 400; len(digits) <= 40 && exp <= 400 {
		return api.Value{Kind: api.KindNum, Num: api.Num{Neg: b.Sign() < 0, Digits: digits, Exp: exp}}, api.OK
	}
	return api.Value{}, api.ErrEvalCoerce
}

func reckonScalar(op api.Op, v api.Value) (api.Value, api.Errno) {
	switch {
	case op == api.OpToText && v.Kind == api.KindBool:
		return text(map[bool]string{true: "true", false: "false"}[v.Flag]), api.OK
	case op == api.OpToText && v.Kind == api.KindNum:
		s, _ := num.Print(v.Num)
		return text(s), api.OK
	case op == api.OpToText && v.Kind == api.KindText, op == api.OpToNum && v.Kind == api.KindNum:
		return v, api.OK
	case op == api.OpToNum && v.Kind == api.KindText:
		n, bad := num.Parse(v.Text)
		if bad != api.OK {
			return api.Value{}, api.ErrEvalCoerce
		}
		return api.Value{Kind: api.KindNum, Num: n}, api.OK
	}
	return api.Value{}, api.ErrEvalType
}

// ask holds Run's answer of whatever structs against what is reckoned, and tells its error.
func ask(t *testing.T, e api.Expr, v api.Value) api.Errno {
	t.Helper()
	bad := lang.Check(e)
	if bad == api.OK {
		bad = value.Check(v)
	}
	made := api.Value{}
	if bad == api.OK {
		made, bad = reckon(e, v)
	}
	if bad != api.OK {
		wantRefused(t, e, v, bad)
	} else {
		wantMade(t, e, v, made)
	}
	return bad
}

// P16.1 of all small mappings and values.
func TestSmall(t *testing.T) {
	exprs := smallExprs()
	told := map[api.Errno]int{}
	for _, v := range smallValues() {
		for _, e := range exprs {
			told[ask(t, e, v)]++
		}
	}
	if told[api.OK] < 20000 || told[api.ErrEvalType] < 20000 || told[api.ErrEvalCoerce] < 500 {
		t.Errorf("only %v answers", told)
	}
}

// P16.1 of mappings and values of all sorts.
func TestOfMany(t *testing.T) {
	r := rand.New(rand.NewSource(161))
	told, other := map[api.Errno]int{}, 0
	for range 25000 {
		v := someValue(r, 1+r.Intn(5))
		e := taking(r, v, 1+r.Intn(6))
		told[ask(t, e, v)]++
		if ask(t, e, someValue(r, 4)) == api.OK {
			other++
		}
	}
	if told[api.OK] < 15000 || told[api.ErrEvalType] < 1500 || told[api.ErrEvalCoerce] < 250 || told[api.ErrLimit] < 50 || other < 5000 {
		t.Errorf("only %v answers, %d at other values", told, other)
	}
}

// P16.1 where limits are near: whatever is done, it is done to a value that is deep or large.
func TestNearLimits(t *testing.T) {
	r := rand.New(rand.NewSource(162))
	told := map[api.Errno]int{}
	for range 2500 {
		v := someValue(r, 1+r.Intn(3))
		for value.Depth(v) < 13 {
			v = []api.Value{list(v), list(null, v), tagged("a", v), recordOf("a", v), recordOf("b a", number("1", 0), v)}[r.Intn(5)]
		}
		told[ask(t, taking(r, v, 6), v)]++
	}
	for range 500 {
		v := list(someValue(r, 3), sizedOf(3500+r.Intn(600)), someValue(r, 3))
		if r.Intn(2) == 0 {
			v = recordOf("a b", list(sizedOf(1200), sizedOf(1+r.Intn(1500))), sizedOf(300))
		}
		told[ask(t, taking(r, v, 5), v)]++
	}
	if told[api.OK] < 1200 || told[api.ErrLimit] < 300 {
		t.Errorf("only %v answers", told)
	}
}

// P16.1: sums of whatever numbers.
func TestSums(t *testing.T) {
	r := rand.New(rand.NewSource(163))
	told := map[api.Errno]int{}
	for range 40000 {
		near := r.Intn(801) - 400
		v := list()
		for range r.Intn(8) {
			n := someNumber(r)
			if r.Intn(6) > 0 {
				n.Num.Exp = max(-400, min(400, near+r.Intn(20)))
			}
			if n.Num.Digits == "0" {
				n = number("0", 0)
			}
			v.List = append(v.List, n)
			if r.Intn(3) == 0 { // what was added is taken away again
				n.Num.Neg = !n.Num.Neg && n.Num.Digits != "0"
				v.List = append(v.List, n)
			}
		}
		if r.Intn(20) == 0 {
			v.List = append(v.List, someValue(r, 2))
		}
		told[ask(t, sum, v)]++
	}
	if told[api.OK] < 5000 || told[api.ErrEvalCoerce] < 5000 || told[api.ErrEvalType] < 100 {
		t.Errorf("only %v answers", told)
	}
}

// P16.1, R1: structs of all sorts, some of which are no mappings, or no values.
func TestOfAnyStructs(t *testing.T) {
	r := rand.New(rand.NewSource(164))
	told := map[api.Errno]int{}
	for range 30000 {
		v := someValue(r, 1+r.Intn(4))
		e := taking(r, v, 1+r.Intn(4))
		if r.Intn(2) == 0 {
			v = brokenValue(r, v)
		}
		if r.Intn(2) == 0 {
			e = broken(r, e)
		}
		told[ask(t, e, v)]++
	}
	for _, e := range []api.Errno{api.OK, api.ErrValueForm, api.ErrLangForm, api.ErrEvalType} {
		if told[e] < 500 {
			t.Errorf("only %d answers are %d", told[e], e)
		}
	}
}

// P16.1 of whatever texts and documents there are.
func FuzzRun(f *testing.F) {
	for _, x := range [][2]string{{".a", `{"a":1}`}, {"[tonum] ; sum", `["1","0.5"]`}, {"{n = count, l = id}", `[null]`}, {"case {a = tag x, b = const 0}", `{"$tag":["a",null]}`}, {"totext", `1.50`}, {"{a=id,b=id};{a=id,b=id};.a;[.b]", `{"$bytes":"00"}`}} {
		f.Add(x[0], x[1])
	}
	f.Fuzz(func(t *testing.T, mapping, document string) {
		e, bad, _ := lang.Parse(mapping)
		v, worse := json.Read([]byte(document))
		if bad == api.OK && worse == api.OK && len(mapping) < 200 && len(document) < 500 { // what is reckoned goes through all at each step
			ask(t, e, v)
		}
	})
}
