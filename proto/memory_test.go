package proto_test

import (
	"bytes"
	"math/rand"
	"reflect"
	"testing"

	"calamus/api"
	"calamus/proto"
	"calamus/value"
)

// roomyType is x whose lists, and those within, have spare room in which something stands.
func roomyType(x api.Type) api.Type {
	x.Names = append(append(make([]string, 0, len(x.Names)+2), x.Names...), "spare", "room")[:len(x.Names)]
	l := make([]api.Type, 0, len(x.List)+2)
	for _, u := range x.List {
		l = append(l, roomyType(u))
	}
	x.List = append(l, textType, recordOf("spare", nullType))[:len(x.List)]
	return x
}

// copiedType is x in memory of its own, its spare room laid open.
func copiedType(x api.Type) api.Type {
	names := append([]string(nil), x.Names[:cap(x.Names)]...)
	l := append([]api.Type(nil), x.List[:cap(x.List)]...)
	for i := range l {
		l[i] = copiedType(l[i])
	}
	x.Names, x.List = names, l
	return x
}

// roomyValue and copiedValue are the same of values.
func roomyValue(v api.Value) api.Value {
	v.Names = append(append(make([]string, 0, len(v.Names)+2), v.Names...), "spare", "room")[:len(v.Names)]
	l := make([]api.Value, 0, len(v.List)+2)
	for _, w := range v.List {
		l = append(l, roomyValue(w))
	}
	v.List = append(l, text("spare"), text("room"))[:len(v.List)]
	return v
}

func copiedValue(v api.Value) api.Value {
	names := append([]string(nil), v.Names[:cap(v.Names)]...)
	l := append([]api.Value(nil), v.List[:cap(v.List)]...)
	for i := range l {
		l[i] = copiedValue(l[i])
	}
	v.Names, v.List = names, l
	return v
}

// spoil writes over all that v holds, spare room and all, and asks that it was not written over through another list of v.
func spoil(t *testing.T, v api.Value) {
	t.Helper()
	names, l := v.Names[:cap(v.Names)], v.List[:cap(v.List)]
	for i := range names {
		if names[i] == "spoilt" {
			t.Errorf("R2: lists of one answer share memory")
		}
		names[i] = "spoilt"
	}
	for i := range l {
		if l[i].Kind == 99 {
			t.Errorf("R2: lists of one answer share memory")
		}
		w := l[i]
		l[i] = api.Value{Kind: 99}
		spoil(t, w)
	}
}

// R2: what is handed in is not written into, nor its spare room, which does not count; what is answered is new memory.
func TestMemory(t *testing.T) {
	r := rand.New(rand.NewSource(16))
	for range 2000 {
		plain := someRecord(r, 4)
		v := valueOf(r, plain)
		x, w := roomyType(plain), roomyValue(v)
		wasX, wasW := copiedType(x), copiedValue(w)
		b, e := proto.Write(x, w)
		c, f := proto.Write(plain, v)
		if !bytes.Equal(b, c) || e != f || proto.Check(x) != api.OK {
			t.Errorf("R2: spare room counts in %s", told(plain))
		}
		in := append(append(make([]byte, 0, len(b)+4), b...), 1, 2, 3, 4)[:len(b)]
		if r.Intn(2) == 0 && len(in) > 0 {
			in[r.Intn(len(in))]++
		}
		was := bytes.Clone(in[:cap(in)])
		got, e := proto.Read(x, in)
		again, f := proto.Read(plain, bytes.Clone(in))
		if !value.Equal(got, again) || e != f {
			t.Errorf("R2: spare room counts in % x", clip(in))
		}
		spoil(t, got)
		if spare := b[:cap(b)]; len(spare) > 0 {
			clear(spare)
		}
		if !reflect.DeepEqual(copiedType(x), wasX) || !reflect.DeepEqual(copiedValue(w), wasW) || !bytes.Equal(in[:cap(in)], was) {
			t.Errorf("R2: what is handed in is changed: %s", told(plain))
		}
		clear(in)
		if want, e := reckonRead(plain, was[:len(in)]); e == api.OK && !value.Equal(again, want) {
			t.Errorf("R2: what is read changes with the bytes: %s", told(again))
		}
	}
}

// R2: the same, where parts of what is handed in are one and the same list.
func TestShared(t *testing.T) {
	names := []string{"a", "b"}
	inner := api.Type{Kind: api.TypeRecord, Names: names, List: []api.Type{intType, textType}}
	x := api.Type{Kind: api.TypeRecord, Names: names, List: []api.Type{inner, listOf(inner)}}
	for _, s := range []string{"", "\x0a\x00\x12\x00\x12\x00", "\x0a\x02\x08\x02\x12\x00\x12\x02\x08\x02"} {
		v, e := proto.Read(x, []byte(s))
		if e != api.OK {
			t.Fatal(e)
		}
		spoil(t, v)
	}
	if names[0] != "a" || names[1] != "b" {
		t.Errorf("R2: the names of a type are handed out")
	}
}

// R1: whatever is handed in, however deep or wide, each call ends.
func TestDeep(t *testing.T) {
	deep := within(1<<16-1, intType)
	wantCheck(t, deep, api.ErrLimit)
	wantCheck(t, within(1<<16-1, api.Type{}), api.ErrTypeForm)
	wantWrite(t, abc, around(1<<16-1, number("1", 0)), nil, api.ErrLimit)
	wantWrite(t, abc, around(1<<16-1, api.Value{}), nil, api.ErrValueForm)
	wantCheck(t, wideOf(1<<17, intType), api.ErrLimit)
	wantWrite(t, abc, list(times(1<<17, null)...), nil, api.ErrLimit)
	b := []byte{8, 1}
	for range 14 {
		b = []byte(keyed(1, 2, string(b)))
	}
	wantRead(t, within(15, boolType), b, around(15, flag(true)), api.OK)
	wantWrite(t, within(15, boolType), around(15, flag(true)), b, api.OK)
	for range 20000 {
		b = append([]byte{0x0a, 0x80, 0x80, 4}, b...)
	}
	wantRead(t, within(15, boolType), b, api.Value{}, api.ErrLimit)
	wantRead(t, within(15, boolType), b[:65536], api.Value{}, api.ErrProto)
}
