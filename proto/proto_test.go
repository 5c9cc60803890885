package proto_test

import (
	"bytes"
	"fmt"
	"math"
	"strings"
	"testing"

	"calamus/api"
	"calamus/proto"
	"calamus/value"
)

// abc is the record of the chapter's examples.
var abc = recordOf("a b c", intType, textType, listOf(intType))

func abcOf(a api.Value, b string, c ...api.Value) api.Value {
	return record("a b c", a, text(b), list(c...))
}

// wantRead asks for what Read answers.
func wantRead(t *testing.T, x api.Type, b []byte, want api.Value, e api.Errno) {
	t.Helper()
	v, f := proto.Read(x, b)
	if !value.Equal(v, want) || f != e {
		t.Errorf("P12.3: Read(%s, % x) = %s, %d, want %s, %d", told(x), clip(b), told(v), f, told(want), e)
	}
}

// wantWrite asks for what Write answers.
func wantWrite(t *testing.T, x api.Type, v api.Value, want []byte, e api.Errno) {
	t.Helper()
	b, f := proto.Write(x, v)
	if !bytes.Equal(b, want) || f != e {
		t.Errorf("P12.2: Write(%s, %s) = % x, %d, want % x, %d", told(x), told(v), clip(b), f, clip(want), e)
	}
}

// clip is b, and told whatever else, as far as it is good to be told.
func clip(b []byte) []byte { return b[:min(len(b), 100)] }

func told(x any) string {
	return string(clip(fmt.Append(nil, x)))
}

func TestExamples(t *testing.T) {
	zero := number("0", 0)
	wantWrite(t, abc, abcOf(zero, ""), nil, api.OK)
	wantWrite(t, abc, abcOf(below("1", 0), "x", number("1", 0), number("2", 0)), unhex(t, "08 01 12 01 78 1a 02 02 04"), api.OK)
	wantWrite(t, abc, abcOf(number("9223372036854775808", 0), ""), append([]byte{0x0a, 0x13}, "9223372036854775808"...), api.OK)
	wantRead(t, abc, unhex(t, "08 02 08 04"), abcOf(number("2", 0), ""), api.OK)
	wantRead(t, abc, unhex(t, "20 00 08 02"), abcOf(number("1", 0), ""), api.OK)
	wantRead(t, abc, unhex(t, "18 02 1a 01 04"), abcOf(zero, "", number("1", 0), number("2", 0)), api.OK)
	for _, s := range []string{"08", "10 01", "12 01 ff", "0a 01 78", "09 00 00 00 00 00 00 00 00"} {
		wantRead(t, abc, unhex(t, s), api.Value{}, api.ErrProto)
	}
	for _, x := range []api.Type{listOf(intType), recordOf("a", nullType), recordOf("a", listOf(listOf(intType)))} {
		wantCheck(t, x, api.ErrProtoType)
	}
}

// wantCheck asks for Check's answer, and that the other calls answer it, too, whatever else is wrong.
func wantCheck(t *testing.T, x api.Type, want api.Errno) {
	t.Helper()
	if e := proto.Check(x); e != want {
		t.Errorf("P12.1: Check(%s) = %d, want %d", told(x), e, want)
	}
	if want == api.OK {
		wantRead(t, x, nil, none(x), api.OK)
		wantWrite(t, x, none(x), nil, api.OK)
		return
	}
	for _, v := range []api.Value{null, {}, record("a", number("0", 0)), list(), text(strings.Repeat("a", 5000))} {
		wantWrite(t, x, v, nil, want)
	}
	for _, b := range [][]byte{nil, {0x08}, {0x0b}, {0x08, 2}, make([]byte, 65537)} {
		wantRead(t, x, b, api.Value{}, want)
	}
}

// fieldTypes are types of fields, and noFields types that are none.
func fieldTypes() []api.Type {
	l := append(plainTypes(), recordOf(""), recordOf("a", intType), recordOf("a b", recordOf(""), textType), recordOf("a", listOf(recordOf("b", listOf(bytesType)))))
	for _, u := range l {
		l = append(l, listOf(u))
	}
	return l
}

func noFields() []api.Type {
	l := []api.Type{anyType, nullType, unionOf(""), unionOf("a", intType), unionOf("a b", intType, textType), recordOf("a", nullType), recordOf("a b", intType, anyType), recordOf("a", recordOf("b", unionOf("c", intType)))}
	for _, u := range l {
		l = append(l, listOf(u))
	}
	for _, u := range fieldTypes() {
		if u.Kind == api.TypeList {
			l = append(l, listOf(u), listOf(listOf(u)))
		}
	}
	return l
}

// P12.1: which types have a wire form, wherever their parts stand.
func TestCheck(t *testing.T) {
	wantCheck(t, recordOf(""), api.OK)
	for _, u := range fieldTypes() {
		for _, x := range []api.Type{recordOf("a", u), recordOf("a b", intType, u), recordOf("a b", u, listOf(textType)), recordOf("a", listOf(recordOf("b", u))), recordOf("a", recordOf("b c", u, u))} {
			wantCheck(t, x, api.OK)
		}
		if u.Kind != api.TypeRecord {
			wantCheck(t, u, api.ErrProtoType)
		}
		wantCheck(t, unionOf("a", u), api.ErrProtoType)
	}
	for _, u := range noFields() {
		for _, x := range []api.Type{u, listOf(u), recordOf("a", u), recordOf("a b", intType, u), recordOf("a b", u, intType), recordOf("a", listOf(recordOf("b", u))), recordOf("a b", intType, recordOf("b c", textType, u))} {
			wantCheck(t, x, api.ErrProtoType)
		}
	}
}

// P12.1: what is no type, or beyond the limits, is told ahead of what has no wire form.
func TestCheckOrder(t *testing.T) {
	noTypes := []api.Type{
		{}, {Kind: -1}, {Kind: 12}, {Kind: math.MaxInt}, {Kind: api.TypeList}, {Kind: api.TypeList, List: []api.Type{intType, intType}}, recordOf("a a", intType, intType), recordOf("a"), recordOf("a", intType, intType),
		{Kind: api.TypeRecord, Names: []string{"\xff"}, List: []api.Type{intType}}, {Kind: api.TypeInt, Names: []string{"a"}}, {Kind: api.TypeBool, List: []api.Type{intType}},
	}
	for _, u := range noTypes {
		for _, x := range []api.Type{u, recordOf("a", u), recordOf("a b", nullType, u), recordOf("a", listOf(listOf(u))), listOf(u), recordOf(strings.Repeat("a", 65), u), within(20, u)} {
			wantCheck(t, x, api.ErrTypeForm)
		}
	}
	for _, x := range []api.Type{recordOf(strings.Repeat("a", 65), intType), recordOf("a b", nullType, recordOf(strings.Repeat("a", 65), intType)), within(16, intType), within(16, nullType), listOf(within(15, listOf(intType))), wideOf(257, intType), wideOf(16, wideOf(255, intType))} {
		wantCheck(t, x, api.ErrLimit)
	}
	for _, x := range []api.Type{recordOf(strings.Repeat("a", 64), intType), within(15, intType), within(14, listOf(intType)), within(16, recordOf(""))} {
		if x.Kind == api.TypeRecord && depthOf(x) <= 16 {
			wantCheck(t, x, api.OK)
		} else {
			wantCheck(t, x, api.ErrLimit)
		}
	}
	wantCheck(t, wideOf(256, intType), api.OK)
	wantCheck(t, wideOf(15, wideOf(255, intType)), api.OK)
	wantCheck(t, wideOf(15, wideOf(255, nullType)), api.ErrProtoType)
}

func depthOf(t api.Type) int {
	most := 0
	for _, u := range t.List {
		most = max(most, depthOf(u))
	}
	return most + 1
}
