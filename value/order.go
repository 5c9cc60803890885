package value

import (
	"cmp"
	"slices"

	"calamus/api"
	"calamus/num"
)

// Equal is P4.3.
func Equal(a, b api.Value) bool {
	if a.Kind != b.Kind || a.Flag != b.Flag || a.Num != b.Num || a.Bits != b.Bits || a.Text != b.Text {
		return false
	}
	return slices.Equal(a.Names, b.Names) && slices.EqualFunc(a.List, b.List, Equal)
}

// Cmp is P4.4.
func Cmp(a, b api.Value) (int, api.Errno) {
	if e := Check(a); e != api.OK {
		return 0, e
	}
	if e := Check(b); e != api.OK {
		return 0, e
	}
	return compare(a, b), api.OK
}

// compare is Cmp of structs that are values.
func compare(a, b api.Value) int {
	if c := cmp.Compare(a.Kind, b.Kind); c != 0 {
		return c
	}
	switch a.Kind {
	case api.KindBool:
		return compareFlags(a.Flag, b.Flag)
	case api.KindNum:
		c, _ := num.Cmp(a.Num, b.Num) // both are numbers
		return c
	case api.KindFloat:
		return cmp.Compare(a.Bits, b.Bits)
	case api.KindText, api.KindBytes:
		return cmp.Compare(a.Text, b.Text)
	case api.KindList:
		return compareLists(a.List, b.List, compare)
	case api.KindRecord:
		return compareLists(pairs(a), pairs(b), comparePairs)
	case api.KindTag:
		return comparePairs(pair{a.Text, a.List[0]}, pair{b.Text, b.List[0]})
	}
	return 0 // there is but one null
}

func compareFlags(a, b bool) int {
	switch {
	case a == b:
		return 0
	case b:
		return -1
	}
	return 1
}

// compareLists goes element by element; what is a beginning of the other list is ahead of it.
func compareLists[T any](a, b []T, elements func(a, b T) int) int {
	for i := range min(len(a), len(b)) {
		if c := elements(a[i], b[i]); c != 0 {
			return c
		}
	}
	return cmp.Compare(len(a), len(b))
}

// pair is a value with its name: an element of a record, or a tag.
type pair struct {
	name  string
	value api.Value
}

// pairs lays a record's names and values together, since its order goes by both in turn.
func pairs(v api.Value) []pair {
	l := make([]pair, len(v.List))
	for i, w := range v.List {
		l[i] = pair{v.Names[i], w}
	}
	return l
}

func comparePairs(a, b pair) int {
	if c := cmp.Compare(a.name, b.name); c != 0 {
		return c
	}
	return compare(a.value, b.value)
}
