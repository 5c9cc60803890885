package value_test

import (
	"cmp"
	"math/big"
	"math/rand"
	"reflect"
	"strconv"
	"strings"
	"testing"

	"calamus/api"
	"calamus/value"
)

// key is a step of a value's row of keys: a whole number, or a number.
type key struct {
	whole uint64
	num   *big.Rat
}

// keys lays a value out in a row, so that the first difference of two rows tells their order.
func keys(v api.Value) []key {
	l := []key{{whole: uint64(v.Kind)}}
	switch v.Kind {
	case api.KindBool:
		if v.Flag {
			return append(l, key{whole: 1})
		}
		return append(l, key{whole: 0})
	case api.KindNum:
		n, _ := new(big.Rat).SetString(v.Num.Digits + "e" + strconv.Itoa(v.Num.Exp))
		if v.Num.Neg {
			n.Neg(n)
		}
		return append(l, key{num: n})
	case api.KindFloat:
		return append(l, key{whole: v.Bits})
	case api.KindText, api.KindBytes:
		return append(l, textKeys(v.Text)...)
	case api.KindTag:
		return append(append(l, textKeys(v.Text)...), keys(v.List[0])...)
	}
	for i, w := range v.List {
		l = append(l, key{whole: 1})
		if v.Kind == api.KindRecord {
			l = append(l, textKeys(v.Names[i])...)
		}
		l = append(l, keys(w)...)
	}
	return append(l, key{whole: 0}) // the end is ahead of a further element
}

func textKeys(s string) []key {
	var l []key
	for i := range len(s) {
		l = append(l, key{whole: 1 + uint64(s[i])})
	}
	return append(l, key{whole: 0})
}

// order is Cmp, reckoned by rows of keys.
func order(a, b []key) int {
	for i := range min(len(a), len(b)) {
		c := cmp.Compare(a[i].whole, b[i].whole)
		if a[i].num != nil && b[i].num != nil {
			c = a[i].num.Cmp(b[i].num)
		}
		if c != 0 {
			return c
		}
	}
	return cmp.Compare(len(a), len(b))
}

// P4.4, with each pair as the document puts it.
func TestCmpOfPairs(t *testing.T) {
	for i, x := range []struct {
		ahead, behind api.Value
	}{
		{null, flag(false)}, {flag(true), number("0", 0)}, {number(strings.Repeat("9", 40), 400), float(0)}, {float(1<<64 - 1), text("")},
		{text("z"), raw("")}, {raw("\xff"), list()}, {list(tag("z", null)), record("")}, {record("z", tag("z", null)), tag("", null)},
		{flag(false), flag(true)},
		{below("1", 0), number("0", 0)}, {number("0", 0), number("1", -400)}, {below("2", 0), below("1", 0)}, {number("9", 0), number("1", 1)}, {number("5", -1), number("1", 0)}, {number("15", -1), number("2", 0)},
		{float(0), float(1)}, {float(0x3ff0000000000000), float(0x7ff0000000000001)}, {float(0x7ff8000000000000), float(0x7ff8000000000001)}, {float(0x7fffffffffffffff), float(1 << 63)}, {float(0xfff8000000000000), float(0xfff8000000000001)},
		{text(""), text("a")}, {text("a"), text("ab")}, {text("ab"), text("b")}, {text("Z"), text("a")}, {text("a"), text("\u00e9")}, {text("\uffff"), text("\U00010000")}, {text("a"), text("a\x00")},
		{raw(""), raw("\x00")}, {raw("\x7f"), raw("\x80")}, {raw("\xfe\xff"), raw("\xff")}, {raw("\xff"), raw("\xff\x00")},
		{list(), list(null)}, {list(null), list(null, null)}, {list(null, null), list(flag(false))}, {list(null, flag(true)), list(flag(false))}, {list(number("9", 0)), list(number("1", 1))}, {list(list(), text("z")), list(list(null))},
		{record(""), record("a", null)}, {record("a", null), record("a b", null, null)}, {record("a", list()), record("b", null)}, {record("a b", null, list()), record("a b", flag(false), null)},
		{record("a z", null, null), record("a b", flag(false), null)}, // the first value counts ahead of the second name
		{record("a b", null, null), record("a b", null, flag(false))}, {record("a b", null, list()), record("a c", null, null)}, {record("a b", null, null), record("b a", null, null)}, {record("a", null), record("ab", null)},
		{tag("", list()), tag("a", null)}, {tag("a", list()), tag("ab", null)}, {tag("a", null), tag("a", flag(false))}, {tag("a", tag("a", list())), tag("a", tag("b", null))},
	} {
		if c, e := value.Cmp(x.ahead, x.behind); c != -1 || e != api.OK {
			t.Errorf("P4.4: pair %d: Cmp = %d, %d", i, c, e)
		}
		if c, e := value.Cmp(x.behind, x.ahead); c != 1 || e != api.OK {
			t.Errorf("P4.4: pair %d, turned: Cmp = %d, %d", i, c, e)
		}
		if value.Equal(x.ahead, x.behind) || value.Equal(x.behind, x.ahead) {
			t.Errorf("P4.3: pair %d is Equal", i)
		}
	}
}

// P4.4 of all pairs of values of all Kinds.
func TestCmpOfAll(t *testing.T) {
	all := someValues()
	rows := make([][]key, len(all))
	for i, v := range all {
		rows[i] = keys(v)
	}
	for i, a := range all {
		for k, b := range all {
			if c, e := value.Cmp(a, b); c != order(rows[i], rows[k]) || e != api.OK {
				t.Errorf("P4.4: values %d and %d: Cmp = %d, %d, want %d", i, k, c, e, order(rows[i], rows[k]))
			}
			if (i == k) != value.Equal(a, b) {
				t.Errorf("P4.3: values %d and %d: Equal = %v", i, k, value.Equal(a, b))
			}
		}
	}
}

// P4.4 of pairs that are alike but for one value within.
func TestCmpOfNear(t *testing.T) {
	r := rand.New(rand.NewSource(45))
	seen := [3]int{}
	for range 20000 {
		a := someValue(r, 5)
		b := changed(a, r.Intn(count(a)), func(v api.Value) api.Value { return someValue(r, 2) })
		want := order(keys(a), keys(b))
		if c, e := value.Cmp(a, b); c != want || e != api.OK || value.Equal(a, b) != (want == 0) {
			t.Fatalf("P4.4: Cmp(%v, %v) = %d, %d, want %d", a, b, c, e, want)
		}
		seen[want+1]++
	}
	for i, n := range seen {
		if n < 500 {
			t.Errorf("only %d pairs whose order is %d", n, i-1)
		}
	}
}

// P4.4: Check's error of the first, then of the second; no order beside it.
func TestCmpRefuses(t *testing.T) {
	long := text(strings.Repeat("a", 4097))
	for _, bad := range noValues() {
		for i, x := range []struct {
			a, b api.Value
			want api.Errno
		}{
			{bad, null, api.ErrValueForm}, {null, bad, api.ErrValueForm}, {bad, bad, api.ErrValueForm},
			{bad, long, api.ErrValueForm}, {long, bad, api.ErrLimit},
			{tag("a", bad), list(), api.ErrValueForm}, {list(), tag("a", bad), api.ErrValueForm}, {list(long, bad), long, api.ErrValueForm},
			{long, null, api.ErrLimit}, {null, long, api.ErrLimit}, {long, long, api.ErrLimit}, {flag(true), list(null, long), api.ErrLimit},
			{nested(16, null), null, api.ErrLimit}, {null, nested(16, null), api.ErrLimit}, {sized(4097), null, api.ErrLimit}, {null, sized(4097), api.ErrLimit},
		} {
			if c, e := value.Cmp(x.a, x.b); c != 0 || e != x.want {
				t.Errorf("P4.4: pair %d: Cmp = %d, %d, want %d", i, c, e, x.want)
			}
		}
	}
}

// P4.3 of structs whose fields differ in one place alone, values or not.
func TestEqualFields(t *testing.T) {
	full := api.Value{Kind: 3, Flag: true, Num: api.Num{Neg: true, Digits: "1", Exp: 2}, Bits: 5, Text: "t", Names: []string{"a", "b"}, List: []api.Value{null, {}}}
	for i, change := range []func(v *api.Value){
		func(v *api.Value) { v.Kind = 4 }, func(v *api.Value) { v.Kind = 0 }, func(v *api.Value) { v.Kind = -3 },
		func(v *api.Value) { v.Flag = false },
		func(v *api.Value) { v.Num.Neg = false }, func(v *api.Value) { v.Num.Digits = "10" }, func(v *api.Value) { v.Num.Exp = 1 }, func(v *api.Value) { v.Num = api.Num{} },
		func(v *api.Value) { v.Bits = 4 }, func(v *api.Value) { v.Bits |= 1 << 63 },
		func(v *api.Value) { v.Text = "" }, func(v *api.Value) { v.Text = "u" }, func(v *api.Value) { v.Text = "ta" },
		func(v *api.Value) { v.Names = nil }, func(v *api.Value) { v.Names = v.Names[:1] }, func(v *api.Value) { v.Names = []string{"b", "a"} }, func(v *api.Value) { v.Names = []string{"a", "b", ""} }, func(v *api.Value) { v.Names = []string{"a", "c"} },
		func(v *api.Value) { v.List = nil }, func(v *api.Value) { v.List = v.List[:1] }, func(v *api.Value) { v.List = []api.Value{{}, null} }, func(v *api.Value) { v.List = []api.Value{null, {}, {}} },
		func(v *api.Value) { v.List = []api.Value{null, {Kind: 99}} }, func(v *api.Value) { v.List = []api.Value{{Kind: api.KindNull, Bits: 1}, {}} }, func(v *api.Value) { v.List = []api.Value{null, {List: times(1, null)}} },
	} {
		v := full
		change(&v)
		for k, place := range places() {
			if a, b := place(full), place(v); value.Equal(a, b) || value.Equal(b, a) || !value.Equal(b, place(v)) {
				t.Errorf("P4.3: change %d in place %d: Equal", i, k)
			}
		}
	}
	for k, place := range places() {
		if !value.Equal(place(full), place(full)) {
			t.Errorf("P4.3: place %d: not Equal", k)
		}
	}
}

// P4.3: a list without elements is the same as none, but not the same as one with an element.
func TestEqualNil(t *testing.T) {
	for _, v := range append(someValues(), noValues()...) {
		w := v
		if len(v.Names) == 0 {
			v.Names, w.Names = nil, []string{}
		}
		if len(v.List) == 0 {
			v.List, w.List = nil, make([]api.Value, 0, 2)
		}
		for i, place := range places() {
			if !value.Equal(place(v), place(w)) || !value.Equal(place(w), place(v)) {
				t.Errorf("P4.3: %v in place %d is not Equal", v.Kind, i)
			}
		}
	}
}

// tidied has nil in place of lists without elements.
func tidied(v api.Value) api.Value {
	v.Names = append([]string(nil), v.Names...)
	v.List = append([]api.Value(nil), v.List...)
	for i, w := range v.List {
		v.List[i] = tidied(w)
	}
	return v
}

// P4.3 of pairs of structs, of which few are values.
func TestEqualOfMany(t *testing.T) {
	r := rand.New(rand.NewSource(46))
	same := 0
	for range 20000 {
		a := someStruct(r, 4)
		b := changed(a, r.Intn(count(a)), func(v api.Value) api.Value {
			f := fields()[r.Intn(len(fields()))]
			f.set(&v)
			return v
		})
		want := reflect.DeepEqual(tidied(a), tidied(b))
		if value.Equal(a, b) != want || value.Equal(b, a) != want {
			t.Fatalf("P4.3: Equal(%v, %v) is not %v", a, b, want)
		}
		if want {
			same++
		}
	}
	if same < 500 {
		t.Errorf("only %d pairs are the same", same)
	}
}
