package event

import (
	"slices"
	"testing"

	"calamus/api"
)

// The iterator yields no more events than are asked for, wherever it is left.
func TestIteratorIsLeft(t *testing.T) {
	null := api.Value{Kind: api.KindNull}
	v := api.Value{Kind: api.KindRecord, Names: []string{"a", "b"}, List: []api.Value{
		{Kind: api.KindTag, Text: "t", List: []api.Value{null}},
		{Kind: api.KindList, List: []api.Value{{Kind: api.KindRecord, Names: []string{"c"}, List: []api.Value{null}}, null}},
	}}
	want, e := Flatten(v)
	if e != api.OK || len(want) != 14 {
		t.Fatalf("P5.1: Flatten = %v, %d", want, e)
	}
	for n := 1; n <= len(want); n++ {
		var l []api.Event
		for e := range events(v) {
			l = append(l, e)
			if len(l) == n {
				break
			}
		}
		if !slices.Equal(l, want[:n]) {
			t.Errorf("P5.1: left behind event %d: %v", n, l)
		}
	}
}
