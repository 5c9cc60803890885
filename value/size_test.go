package value_test

import (
	"math/rand"
	"reflect"
	"testing"

	"calamus/api"
	"calamus/value"
)

// levels is how many levels there are in v, reckoned level by level.
func levels(v api.Value) int {
	n := 0
	for level := []api.Value{v}; len(level) > 0; n++ {
		var next []api.Value
		for _, w := range level {
			next = append(next, w.List...)
		}
		level = next
	}
	return n
}

// P4.2 of values, and of structs that are none.
func TestDepthAndSize(t *testing.T) {
	mixed := api.Value{Kind: api.KindNull, List: []api.Value{{}, {Kind: api.KindText, List: []api.Value{{Kind: 77, Names: []string{"a", "b"}}}}, null}}
	for i, x := range []struct {
		v           api.Value
		depth, size int
	}{
		{null, 1, 1},
		{api.Value{}, 1, 1},
		{api.Value{Kind: 99}, 1, 1},
		{text("abc"), 1, 1},
		{list(), 1, 1},
		{api.Value{List: []api.Value{}}, 1, 1},
		{list(list()), 2, 2},
		{list(null, null), 2, 3},
		{record("a b", null, list(null)), 3, 4},
		{record("a b c"), 1, 1}, // names are no values
		{tag("a", null), 2, 2},
		{api.Value{Kind: api.KindTag, List: times(3, null)}, 2, 4},
		{list(list(null), null), 3, 4},
		{list(null, list(null)), 3, 4},
		{list(list(list(null)), list(null, null, null)), 4, 8},
		{mixed, 3, 5},
		{list(mixed, mixed), 4, 11},
		{nested(15, null), 16, 16},
		{nested(300, null), 301, 301},
		{list(times(5000, null)...), 2, 5001},
		{list(times(300, list(times(300, null)...))...), 3, 1 + 300*301},
	} {
		if d, s := value.Depth(x.v), value.Size(x.v); d != x.depth || s != x.size {
			t.Errorf("P4.2: struct %d: Depth, Size = %d, %d, want %d, %d", i, d, s, x.depth, x.size)
		}
	}
}

// P4.2 of all sorts of structs.
func TestDepthAndSizeOfMany(t *testing.T) {
	r := rand.New(rand.NewSource(43))
	all := append(someValues(), noValues()...)
	for range 3000 {
		all = append(all, someStruct(r, 6))
	}
	for _, v := range all {
		if d, s := value.Depth(v), value.Size(v); d != levels(v) || s != count(v) {
			t.Errorf("P4.2: Depth, Size = %d, %d, want %d, %d", d, s, levels(v), count(v))
		}
	}
}

// someStruct makes a struct that is seldom a value: each of its fields is set or not.
func someStruct(r *rand.Rand, depth int) api.Value {
	v := api.Value{Kind: api.Kind(r.Intn(12) - 1)}
	for _, f := range fields() {
		if r.Intn(10) == 0 {
			f.set(&v)
		}
	}
	if depth < 2 || r.Intn(3) == 0 {
		return v
	}
	v.List = nil
	for range r.Intn(4) {
		v.List = append(v.List, someStruct(r, depth-1))
	}
	return v
}

// R1: what is nested as deep as it may be is answered too.
func TestVeryDeep(t *testing.T) {
	a, b, bad := nested(1<<16-1, null), nested(1<<16-1, flag(true)), nested(1<<16-1, api.Value{})
	if d, s := value.Depth(a), value.Size(a); d != 1<<16 || s != 1<<16 {
		t.Errorf("P4.2: Depth, Size = %d, %d", d, s)
	}
	if value.Check(a) != api.ErrLimit || value.Check(bad) != api.ErrValueForm {
		t.Errorf("P4.1: Check = %d, %d", value.Check(a), value.Check(bad))
	}
	if !value.Equal(a, nested(1<<16-1, null)) || value.Equal(a, b) {
		t.Error("P4.3: Equal, very deep")
	}
	if c, e := value.Cmp(a, bad); c != 0 || e != api.ErrLimit {
		t.Errorf("P4.4: Cmp = %d, %d", c, e)
	}
}

// R1: many elements, names and bytes are answered, too.
func TestVeryWide(t *testing.T) {
	v := wide(1 << 15)
	if e := value.Check(v); e != api.ErrLimit {
		t.Errorf("P4.1: Check = %d", e)
	}
	v.Names[1<<15-1] = v.Names[0]
	if e := value.Check(v); e != api.ErrValueForm {
		t.Errorf("P4.1: Check = %d", e)
	}
	if e := value.Check(text(string(make([]byte, 1<<24)))); e != api.ErrLimit {
		t.Errorf("P4.1: Check = %d", e)
	}
	if s := value.Size(list(times(1<<18, list(null))...)); s != 1+2<<18 {
		t.Errorf("P4.2: Size = %d", s)
	}
}

// copied is v in memory of its own, spare room and all.
func copied(v api.Value) api.Value {
	names := append([]string(nil), v.Names[:cap(v.Names)]...)
	l := append([]api.Value(nil), v.List[:cap(v.List)]...)
	for i := range l {
		l[i] = copied(l[i])
	}
	v.Names, v.List = names, l
	return v
}

// roomy is v whose lists, and those within, have spare room in which something stands.
func roomy(v api.Value) api.Value {
	v.Names = append(append(make([]string, 0, len(v.Names)+2), v.Names...), "spare", "spare")[:len(v.Names)]
	l := make([]api.Value, 0, len(v.List)+2)
	for _, w := range v.List {
		l = append(l, roomy(w))
	}
	v.List = append(l, text("spare"), text("spare"))[:len(v.List)]
	return v
}

// R2: what is handed in is not written into, nor its spare room, and the spare room does not count.
func TestHandedIn(t *testing.T) {
	r := rand.New(rand.NewSource(44))
	var all []api.Value
	for range 200 {
		all = append(all, someValue(r, 4), someStruct(r, 4))
	}
	for i, v := range all {
		other := all[(i*7+1)%len(all)]
		a, b := roomy(v), roomy(other)
		wasA, wasB := copied(a), copied(b)
		c, e := value.Cmp(a, b)
		d, f := value.Cmp(v, other)
		if c != d || e != f || value.Check(a) != value.Check(v) || value.Depth(a) != value.Depth(v) || value.Size(a) != value.Size(v) {
			t.Errorf("R2: spare room counts in %v", v)
		}
		if !value.Equal(a, v) || value.Equal(a, b) != value.Equal(v, other) {
			t.Errorf("R2: spare room counts in Equal of %v", v)
		}
		if !reflect.DeepEqual(copied(a), wasA) || !reflect.DeepEqual(copied(b), wasB) {
			t.Errorf("R2: %v is changed", v)
		}
	}
}
