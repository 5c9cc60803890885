package proto_test

import (
	"encoding/hex"
	"math"
	"math/rand"
	"slices"
	"strconv"
	"strings"
	"testing"

	"calamus/api"
)

var (
	null      = api.Value{Kind: api.KindNull}
	nullType  = api.Type{Kind: api.TypeNull}
	anyType   = api.Type{Kind: api.TypeAny}
	boolType  = api.Type{Kind: api.TypeBool}
	numType   = api.Type{Kind: api.TypeNum}
	intType   = api.Type{Kind: api.TypeInt}
	floatType = api.Type{Kind: api.TypeFloat}
	textType  = api.Type{Kind: api.TypeText}
	bytesType = api.Type{Kind: api.TypeBytes}
)

// plainTypes are those of fields that have no parts.
func plainTypes() []api.Type {
	return []api.Type{boolType, intType, numType, floatType, textType, bytesType}
}

func listOf(t api.Type) api.Type { return api.Type{Kind: api.TypeList, List: []api.Type{t}} }

// recordOf has the names that are apart by a space in names.
func recordOf(names string, l ...api.Type) api.Type {
	return api.Type{Kind: api.TypeRecord, Names: strings.Fields(names), List: l}
}

func unionOf(names string, l ...api.Type) api.Type {
	return api.Type{Kind: api.TypeUnion, Names: strings.Fields(names), List: l}
}

// wideOf is the record of n names, all of one type.
func wideOf(n int, t api.Type) api.Type {
	w := api.Type{Kind: api.TypeRecord}
	for i := range n {
		w.Names = append(w.Names, "n"+strconv.Itoa(i))
		w.List = append(w.List, t)
	}
	return w
}

// within lays n records of the one name a around t.
func within(n int, t api.Type) api.Type {
	for range n {
		t = recordOf("a", t)
	}
	return t
}

func flag(b bool) api.Value { return api.Value{Kind: api.KindBool, Flag: b} }

func number(digits string, exp int) api.Value {
	return api.Value{Kind: api.KindNum, Num: api.Num{Digits: digits, Exp: exp}}
}

func below(digits string, exp int) api.Value {
	return api.Value{Kind: api.KindNum, Num: api.Num{Neg: true, Digits: digits, Exp: exp}}
}

func float(bits uint64) api.Value { return api.Value{Kind: api.KindFloat, Bits: bits} }

func text(s string) api.Value { return api.Value{Kind: api.KindText, Text: s} }

func raw(s string) api.Value { return api.Value{Kind: api.KindBytes, Text: s} }

func list(l ...api.Value) api.Value { return api.Value{Kind: api.KindList, List: l} }

// record has the names that are apart by a space in names.
func record(names string, l ...api.Value) api.Value {
	return api.Value{Kind: api.KindRecord, Names: strings.Fields(names), List: l}
}

// wide is the record of n names, all with one value.
func wide(n int, v api.Value) api.Value {
	w := api.Value{Kind: api.KindRecord}
	for i := range n {
		w.Names = append(w.Names, "n"+strconv.Itoa(i))
		w.List = append(w.List, v)
	}
	return w
}

// around lays n records of the one name a around v.
func around(n int, v api.Value) api.Value {
	for range n {
		v = record("a", v)
	}
	return v
}

func times(n int, v api.Value) []api.Value {
	return slices.Repeat([]api.Value{v}, n)
}

// unhex takes hexadecimal digits, with blanks anywhere.
func unhex(t *testing.T, s string) []byte {
	t.Helper()
	b, err := hex.DecodeString(strings.ReplaceAll(s, " ", ""))
	if err != nil {
		t.Fatal(err)
	}
	return b
}

// wholes are whole numbers around all edges; broken those that are not whole.
func wholes() []api.Value {
	nines := strings.Repeat("9", 40)
	return []api.Value{
		number("0", 0), number("1", 0), below("1", 0), number("2", 0), below("2", 0), number("63", 0), number("64", 0), below("64", 0), below("65", 0), number("1", 1), number("25", 2), number("1", 18), below("9", 18), number("1", 19), below("1", 20), number("1", 21),
		number("9223372036854775807", 0), number("9223372036854775808", 0), number("9223372036854775806", 0), below("9223372036854775807", 0), below("9223372036854775808", 0), below("9223372036854775809", 0), number("922337203685477581", 1), below("922337203685477581", 1), number("922337203685477579", 1),
		number("18446744073709551615", 0), number("18446744073709551616", 0), number(nines, 0), below(nines, 400), number("1", 400),
	}
}

func broken() []api.Value {
	nines := strings.Repeat("9", 40)
	return []api.Value{number("5", -1), below("5", -1), number("11", -1), number("1", -400), below(nines, -1), number(nines, -39), number(nines, -400)}
}

// plainValues are values of a type without parts, that of a field that does not come first.
func plainValues(k api.TypeKind) []api.Value {
	switch k {
	case api.TypeBool:
		return []api.Value{flag(false), flag(true)}
	case api.TypeInt:
		return wholes()
	case api.TypeNum:
		return append(wholes(), broken()...)
	case api.TypeFloat:
		return []api.Value{float(0), float(1), float(1 << 63), float(0x3ff0000000000000), float(0x7ff8000000000001), float(0x0102030405060708), float(math.MaxUint64)}
	case api.TypeText:
		return []api.Value{text(""), text("a"), text("\x00"), text("\u00e9\U0001f600"), text(strings.Repeat("a", 127)), text(strings.Repeat("a", 128)), text(strings.Repeat("a", 4096))}
	}
	return []api.Value{raw(""), raw("a"), raw("\x00"), raw("\xff\x80"), raw(strings.Repeat("\xff", 127)), raw(strings.Repeat("\xff", 128)), raw(strings.Repeat("\xff", 4096))}
}

// someField makes a field's type of up to depth deep.
func someField(r *rand.Rand, depth int) api.Type {
	t := plainTypes()[r.Intn(6)]
	if depth > 2 && r.Intn(3) == 0 {
		t = someRecord(r, depth-1)
	}
	if depth > 1 && r.Intn(3) == 0 {
		t = listOf(t)
	}
	return t
}

// someRecord makes a type that has a wire form, of up to depth and one more deep.
func someRecord(r *rand.Rand, depth int) api.Type {
	n := r.Intn(5)
	if r.Intn(20) == 0 {
		n = 14 + r.Intn(5) // whose keys have two bytes
	}
	t := api.Type{Kind: api.TypeRecord}
	for i := range n {
		t.Names = append(t.Names, "n"+strconv.Itoa(i))
		t.List = append(t.List, someField(r, depth))
	}
	return t
}

// valueOf makes a value of t.
func valueOf(r *rand.Rand, t api.Type) api.Value {
	switch t.Kind {
	case api.TypeList:
		v := list()
		for range r.Intn(4) {
			v.List = append(v.List, valueOf(r, t.List[0]))
		}
		return v
	case api.TypeRecord:
		v := api.Value{Kind: api.KindRecord, Names: slices.Clone(t.Names)}
		for _, u := range t.List {
			v.List = append(v.List, valueOf(r, u))
		}
		return v
	}
	l := plainValues(t.Kind)
	if r.Intn(3) == 0 {
		return l[0]
	}
	v := l[r.Intn(len(l))]
	if len(v.Text) > 200 && r.Intn(10) > 0 {
		v.Text = v.Text[:r.Intn(4)]
	}
	return v
}
