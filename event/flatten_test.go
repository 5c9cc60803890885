package event_test

import (
	"math/rand"
	"slices"
	"strings"
	"testing"

	"calamus/api"
	"calamus/event"
)

// wantFlat asks for Flatten's answer on a value.
func wantFlat(t *testing.T, v api.Value, want []api.Event) {
	t.Helper()
	l, e := event.Flatten(v)
	if e != api.OK || !slices.Equal(l, want) {
		t.Errorf("P5.1: Flatten = %s and %d, want %s", short(l), e, short(want))
	}
}

// P5.1 of values of each Kind.
func TestFlattenKinds(t *testing.T) {
	vs, es := scalars()
	for i, v := range vs {
		wantFlat(t, v, row(es[i]))
		wantFlat(t, list(v), row(evList, es[i], evEnd))
		wantFlat(t, list(null, v), row(evList, evNull, es[i], evEnd))
		wantFlat(t, record("a", v), row(evRecord, evName("a"), es[i], evEnd))
		wantFlat(t, tag("t", v), row(evTag("t"), es[i], evEnd))
	}
	empty := api.Value{Kind: api.KindRecord, Names: []string{""}, List: []api.Value{null}}
	for _, x := range []struct {
		v    api.Value
		want []api.Event
	}{
		{list(), row(evList, evEnd)},
		{api.Value{Kind: api.KindList, Names: []string{}, List: []api.Value{}}, row(evList, evEnd)},
		{record(""), row(evRecord, evEnd)},
		{api.Value{Kind: api.KindRecord}, row(evRecord, evEnd)},
		{list(list(), list()), row(evList, evList, evEnd, evList, evEnd, evEnd)},
		{record("b a", null, one), row(evRecord, evName("b"), evNull, evName("a"), evOne, evEnd)},
		{record("a", record("a", tag("a", null))), row(evRecord, evName("a"), evRecord, evName("a"), evTag("a"), evNull, evEnd, evEnd, evEnd)},
		{empty, row(evRecord, evName(""), evNull, evEnd)},
		{tag("", tag("\u00e9", list())), row(evTag(""), evTag("\u00e9"), evList, evEnd, evEnd, evEnd)},
		{tag("a", record("")), row(evTag("a"), evRecord, evEnd, evEnd)},
	} {
		wantFlat(t, x.v, x.want)
	}
}

// P5.1 of values of all sorts.
func TestFlattenSome(t *testing.T) {
	r := rand.New(rand.NewSource(51))
	for range 3000 {
		v := someValue(r, 5)
		wantFlat(t, v, plain(v))
	}
}

// nested lays n lists around v.
func nested(n int, v api.Value) api.Value {
	for range n {
		v = list(v)
	}
	return v
}

// P5.1: each limit, just met and just passed.
func TestFlattenLimits(t *testing.T) {
	a := func(n int) string { return strings.Repeat("a", n) }
	nulls := func(n int) []api.Value { return slices.Repeat([]api.Value{null}, n) }
	for i, x := range []struct{ just, over api.Value }{
		{text(a(4096)), text(a(4097))},
		{raw(a(4096)), raw(a(4097))},
		{tag(a(64), null), tag(a(65), null)},
		{record("b "+a(64), null, null), record("b "+a(65), null, null)},
		{list(nulls(256)...), list(nulls(257)...)},
		{nested(15, null), nested(16, null)},
		{nested(15, list()), nested(1<<16-1, list())},
		{list(slices.Repeat([]api.Value{list(nulls(14)...)}, 256)...), list(slices.Repeat([]api.Value{list(nulls(15)...)}, 256)...)},
	} {
		wantFlat(t, x.just, plain(x.just))
		if l, e := event.Flatten(x.over); e != api.ErrLimit || len(l) != 0 {
			t.Errorf("P5.1: limit %d, passed: Flatten = %s and %d", i, short(l), e)
		}
	}
}

// P5.1 of structs that are no values, within others too, and ahead of limits.
func TestFlattenWrong(t *testing.T) {
	long := text(strings.Repeat("a", 4097))
	for i, v := range []api.Value{
		{}, {Kind: -1}, {Kind: 10}, {Kind: 11}, {Kind: api.KindNum}, {Kind: api.KindNull, Text: "a"}, {Kind: api.KindText, Text: "\xff"},
		{Kind: api.KindList, Text: "a"}, {Kind: api.KindList, Names: []string{"a"}, List: []api.Value{null}}, {Kind: api.KindNull, List: []api.Value{null}},
		record("a a", null, null), record("a"), record("", null), record("a b", null), {Kind: api.KindRecord, Names: []string{"\xff"}, List: []api.Value{null}},
		{Kind: api.KindTag, Text: "a"}, {Kind: api.KindTag, Text: "a", List: []api.Value{null, null}}, {Kind: api.KindTag, Text: "\xff", List: []api.Value{null}},
	} {
		for _, w := range []api.Value{v, list(v), list(null, v), record("a", v), tag("t", v), list(long, v), nested(20, v)} {
			if l, e := event.Flatten(w); e != api.ErrValueForm || len(l) != 0 {
				t.Errorf("P5.1: struct %d: Flatten = %s and %d", i, short(l), e)
			}
		}
	}
}

// R2: what is flattened is not written into, and each answer is new memory.
func TestFlattenMemory(t *testing.T) {
	names, parts := []string{"a", "b", "spare"}, []api.Value{one, list(null), text("spare")}
	v := api.Value{Kind: api.KindRecord, Names: names[:2], List: parts[:2]}
	want := plain(v)
	l, _ := event.Flatten(v)
	if names[2] != "spare" || parts[2].Text != "spare" || !slices.Equal(plain(v), want) {
		t.Errorf("R2: Flatten writes into its argument")
	}
	m, _ := event.Flatten(v)
	clear(l[:cap(l)])
	if !slices.Equal(m, want) || !slices.Equal(plain(v), want) {
		t.Errorf("R2: two answers of Flatten share memory")
	}
}
