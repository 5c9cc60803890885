package types_test

import (
	"math"
	"math/rand"
	"slices"
	"strings"

	"calamus/api"
)

var null = api.Value{Kind: api.KindNull}

func flag(b bool) api.Value { return api.Value{Kind: api.KindBool, Flag: b} }

func number(digits string, exp int) api.Value {
	return api.Value{Kind: api.KindNum, Num: api.Num{Digits: digits, Exp: exp}}
}

func below(digits string, exp int) api.Value {
	return api.Value{Kind: api.KindNum, Num: api.Num{Neg: true, Digits: digits, Exp: exp}}
}

func float(bits uint64) api.Value { return api.Value{Kind: api.KindFloat, Bits: bits} }

func text(s string) api.Value { return api.Value{Kind: api.KindText, Text: s} }

func raw(s string) api.Value { return api.Value{Kind: api.KindBytes, Text: s} }

func list(l ...api.Value) api.Value { return api.Value{Kind: api.KindList, List: l} }

// record has the names that are apart by a space in names.
func record(names string, l ...api.Value) api.Value {
	return api.Value{Kind: api.KindRecord, Names: strings.Fields(names), List: l}
}

func tag(name string, v api.Value) api.Value {
	return api.Value{Kind: api.KindTag, Text: name, List: []api.Value{v}}
}

// nested lays n lists around v.
func nested(n int, v api.Value) api.Value {
	for range n {
		v = list(v)
	}
	return v
}

// wholes are whole numbers, and broken those that are not.
func wholes() []api.Value {
	nines := strings.Repeat("9", 40)
	return []api.Value{number("0", 0), number("1", 0), below("1", 0), number("5", 0), number("1", 1), below("25", 2), number(nines, 0), number(nines, 400), below("1", 400)}
}

func broken() []api.Value {
	nines := strings.Repeat("9", 40)
	return []api.Value{number("5", -1), below("5", -1), number("11", -1), number("1", -400), below(nines, -1), number(nines, -39), number(nines, -400)}
}

// scalars are values of each Kind that has nothing within.
func scalars() []api.Value {
	l := append(wholes(), broken()...)
	return append(l, null, flag(false), flag(true), float(0), float(1), float(math.MaxUint64), float(0x3ff0000000000000),
		text(""), text("a"), text("1"), text("\u00e9"), text(strings.Repeat("a", 4096)), raw(""), raw("a"), raw("1"), raw("\xff"))
}

// smallValues are all values of up to two levels, with the names a and b (and c, of a tag), and one or two scalars of each Kind.
func smallValues() []api.Value {
	low := []api.Value{null, flag(true), number("1", 0), number("5", -1), float(0), text("a"), raw("a"), list(), record("")}
	all := append(scalars(), list(), record(""))
	for _, v := range low {
		all = append(all, list(v), record("a", v), record("b", v), tag("a", v), tag("b", v), tag("c", v), tag("", v))
		for _, w := range low {
			all = append(all, list(v, w), record("a b", v, w), record("b a", v, w))
		}
	}
	return all
}

// noValues are structs that are no values, each for a reason of its own.
func noValues() []api.Value {
	return []api.Value{
		{}, {Kind: -1}, {Kind: 10}, {Kind: math.MaxInt}, {Kind: api.KindNum}, {Kind: api.KindNum, Num: api.Num{Digits: "10"}}, {Kind: api.KindNull, Text: "a"},
		text("\xff"), record("a a", null, null), record("a"), tag("\xff", null), {Kind: api.KindTag, Text: "a"}, {Kind: api.KindTag, Text: "a", List: times(2, null)}, list(api.Value{}), tag("a", list(null, api.Value{Kind: 10})),
	}
}

// overValues are values that pass a limit.
func overValues() []api.Value {
	return []api.Value{
		text(strings.Repeat("a", 4097)), raw(strings.Repeat("a", 4097)), tag(strings.Repeat("a", 65), null), record(strings.Repeat("a", 65), null),
		list(times(257, null)...), nested(16, null), list(times(16, list(times(256, null)...))...), {Kind: api.KindRecord, Names: manyNames(0, 257), List: times(257, null)},
	}
}

// anyValue makes a value of up to depth deep.
func anyValue(r *rand.Rand, depth int) api.Value {
	k := r.Intn(6)
	switch {
	case depth < 2 || k < 3:
		l := scalars()
		return l[r.Intn(len(l))]
	case k == 3:
		return list(anyValue(r, depth-1), anyValue(r, depth-1))
	case k == 4:
		return record("a b", anyValue(r, depth-1), anyValue(r, depth-1))
	}
	return tag("a", anyValue(r, depth-1))
}

// plainValue makes a value of a type without parts.
func plainValue(r *rand.Rand, k api.TypeKind) api.Value {
	var l []api.Value
	switch k {
	case api.TypeAny:
		return anyValue(r, 3)
	case api.TypeNull:
		return null
	case api.TypeBool:
		return flag(r.Intn(2) == 0)
	case api.TypeNum:
		l = append(wholes(), broken()...)
	case api.TypeInt:
		l = wholes()
	case api.TypeFloat:
		return float(r.Uint64())
	case api.TypeText:
		return text([]string{"", "a", "b", "1", "\u00e9"}[r.Intn(5)])
	case api.TypeBytes:
		return raw([]string{"", "a", "b", "\xff\x00"}[r.Intn(4)])
	}
	return l[r.Intn(len(l))]
}

// valueOf makes a value of t, or answers false, if it knows none: a union without names has none.
func valueOf(r *rand.Rand, t api.Type) (api.Value, bool) {
	switch t.Kind {
	case api.TypeList:
		v := list()
		for range r.Intn(4) {
			if w, ok := valueOf(r, t.List[0]); ok {
				v.List = append(v.List, w)
			}
		}
		return v, true
	case api.TypeRecord:
		v := api.Value{Kind: api.KindRecord, Names: slices.Clone(t.Names)}
		for _, u := range t.List {
			w, ok := valueOf(r, u)
			if !ok {
				return v, false
			}
			v.List = append(v.List, w)
		}
		return v, true
	case api.TypeUnion:
		if len(t.Names) == 0 {
			return null, false
		}
		i := r.Intn(len(t.Names))
		w, ok := valueOf(r, t.List[i])
		return tag(t.Names[i], w), ok
	}
	return plainValue(r, t.Kind), true
}

// countValues is how many values are in v, itself too.
func countValues(v api.Value) int {
	n := 1
	for _, w := range v.List {
		n += countValues(w)
	}
	return n
}

// changedValue is v, copied, with the n-th value in it (itself is 0) put through f.
func changedValue(v api.Value, n int, f func(v api.Value) api.Value) api.Value {
	if n == 0 {
		return f(v)
	}
	n--
	l := slices.Clone(v.List)
	for i, w := range l {
		k := countValues(w)
		if n < k {
			l[i] = changedValue(w, n, f)
			break
		}
		n -= k
	}
	v.List = l
	return v
}
