package tally_test

import (
	"math"
	"math/rand"
	"slices"
	"strconv"
	"strings"
	"testing"

	"calamus/api"
	"calamus/event"
	"calamus/tally"
)

var (
	evNull   = api.Event{Kind: api.EvNull}
	evList   = api.Event{Kind: api.EvList}
	evRecord = api.Event{Kind: api.EvRecord}
	evTag    = api.Event{Kind: api.EvTag, Text: "t"}
	evEnd    = api.Event{Kind: api.EvEnd}
)

// long is an event with a text of n bytes.
func long(k api.EventKind, n int) api.Event {
	return api.Event{Kind: k, Text: strings.Repeat("a", n)}
}

func name(i int) api.Event {
	return api.Event{Kind: api.EvName, Text: "n" + strconv.Itoa(i)}
}

// times is n times the events.
func times(n int, l ...api.Event) []api.Event { return slices.Repeat(l, n) }

// wants is what Take must answer, if l is all that was taken: it is ended as soon as can be, and put to event.Build.
func wants(l []api.Event) api.Errno {
	l = slices.Clone(l)
	if k := l[len(l)-1].Kind; k == api.EvName || k == api.EvTag {
		l = append(l, evNull)
	}
	c := event.New()
	for _, e := range l {
		c.Feed(e)
	}
	_, e := event.Build(append(l, times(c.Open(), evEnd)...))
	return e
}

// wantLast asks for an answer to the last of some events; all ahead of it are taken.
func wantLast(t *testing.T, want api.Errno, parts ...[]api.Event) {
	t.Helper()
	l := slices.Concat(parts...)
	c := tally.New()
	for i, e := range l[:len(l)-1] {
		if got := c.Take(e); got != api.OK {
			t.Fatalf("Take of event %d of %d = %d", i, len(l), got)
		}
	}
	if got := c.Take(l[len(l)-1]); got != want || got != wants(l) {
		t.Errorf("Take of the last of %d events = %d, want %d, or %d", len(l), got, want, wants(l))
	}
}

// Each length of texts and names, just met and just passed.
func TestLengths(t *testing.T) {
	for _, ahead := range [][]api.Event{nil, {evList}, {evTag}, {evRecord, name(0)}} {
		for k, most := range map[api.EventKind]int{api.EvText: 4096, api.EvBytes: 4096, api.EvTag: 64} {
			wantLast(t, api.OK, ahead, times(1, long(k, 0)))
			wantLast(t, api.OK, ahead, times(1, long(k, most)))
			wantLast(t, api.ErrLimit, ahead, times(1, long(k, most+1)))
		}
		wantLast(t, api.OK, ahead, times(1, evRecord, long(api.EvName, 64)))
		wantLast(t, api.ErrLimit, ahead, times(1, evRecord, long(api.EvName, 65)))
	}
}

// How deep a value may be: one that a name or a tag needs counts ahead.
func TestDepth(t *testing.T) {
	wantLast(t, api.OK, times(16, evList))
	wantLast(t, api.ErrLimit, times(17, evList))
	wantLast(t, api.OK, times(15, evList), times(1, evNull))
	wantLast(t, api.ErrLimit, times(16, evList), times(1, evNull))
	wantLast(t, api.OK, times(15, evRecord, name(0)), times(1, evRecord))
	wantLast(t, api.ErrLimit, times(16, evRecord, name(0)))
	wantLast(t, api.OK, times(15, evTag))
	wantLast(t, api.ErrLimit, times(16, evTag))
	wantLast(t, api.OK, times(14, evList), times(1, evTag, evList))
	wantLast(t, api.ErrLimit, times(14, evList), times(1, evTag, evList, evNull))
	wantLast(t, api.ErrLimit, times(15, evList), times(1, evTag))
	wantLast(t, api.OK, times(16, evList), times(1, evEnd, evNull, evList))
	wantLast(t, api.ErrLimit, times(16, evList), times(1, evEnd, evNull, evList, evList))
	wantLast(t, api.OK, times(16, evList), times(9, evEnd), times(9, evList))
	wantLast(t, api.ErrLimit, times(16, evList), times(9, evEnd), times(10, evList))
}

// wide is a record of n nulls that has not ended.
func wide(n int) []api.Event {
	l := []api.Event{evRecord}
	for i := range n {
		l = append(l, name(i), evNull)
	}
	return l
}

// How many elements a list or a record may have; what is within them does not count, nor what is around.
func TestItems(t *testing.T) {
	full := append(times(1, evList), times(255, evNull)...)
	for _, ahead := range [][]api.Event{nil, {evList}, {evTag}, {evRecord, name(0)}} {
		for _, k := range []api.Event{evNull, evList, evRecord, evTag} {
			wantLast(t, api.OK, ahead, full, times(1, k))
			wantLast(t, api.ErrLimit, ahead, full, times(1, evNull, k))
		}
		wantLast(t, api.OK, ahead, full, times(1, evNull, evEnd))
		wantLast(t, api.OK, ahead, wide(256))
		wantLast(t, api.OK, ahead, wide(256), times(1, evEnd))
		wantLast(t, api.ErrLimit, ahead, wide(256), times(1, name(256)))
	}
	wantLast(t, api.OK, times(1, evList), full, times(1, evEnd), full, times(1, evNull))
	wantLast(t, api.ErrLimit, times(1, evList), full, times(1, evEnd), full, times(1, evNull, evNull))
	wantLast(t, api.OK, times(1, evList), times(255, evList, evNull, evNull, evEnd), times(1, evTag))
	wantLast(t, api.ErrLimit, times(1, evList), times(256, evList, evNull, evNull, evEnd), times(1, evNull))
	wantLast(t, api.OK, times(1, evList), wide(256), times(1, evEnd), wide(255), times(1, name(256), evNull))
	wantLast(t, api.ErrLimit, times(1, evList), wide(256), times(1, evEnd), wide(256), times(1, name(256)))
}

// sized is a list that has not ended, with n values so far, itself too.
func sized(n int) []api.Event {
	l := []api.Event{evList}
	for n--; n > 250; n -= 200 {
		l = slices.Concat(l, times(1, evList), times(199, evNull), times(1, evEnd))
	}
	return append(l, times(n, evNull)...)
}

// How many values there may be in one: one that a name or a tag needs counts ahead.
func TestSize(t *testing.T) {
	wantLast(t, api.OK, sized(4095), times(1, evNull))
	wantLast(t, api.OK, sized(4095), times(1, evList))
	wantLast(t, api.OK, sized(4095), times(1, evRecord))
	wantLast(t, api.ErrLimit, sized(4095), times(1, evRecord, name(0)))
	wantLast(t, api.ErrLimit, sized(4095), times(1, evTag))
	wantLast(t, api.OK, sized(4094), times(1, evTag))
	wantLast(t, api.OK, sized(4094), times(1, evRecord, name(0)))
	wantLast(t, api.ErrLimit, sized(4094), times(1, evRecord, name(0), evNull, name(1)))
	wantLast(t, api.OK, sized(4096), times(1, evEnd))
	for _, e := range []api.Event{evNull, evList, evRecord, evTag} {
		wantLast(t, api.ErrLimit, sized(4096), times(1, e))
	}
}

// Some rows of events, each event asked.
func TestSome(t *testing.T) {
	r := rand.New(rand.NewSource(7))
	refused := 0
	for range 400 {
		var l []api.Event
		order, c := event.New(), tally.New()
		for i := 0; len(l) < 100 && !order.Done(); i++ {
			letters := []api.Event{evNull, evList, evList, evRecord, evTag, long(api.EvText, 4090+r.Intn(8)), long(api.EvTag, 60+r.Intn(6)), name(i), name(i), evEnd, evEnd}
			e := letters[r.Intn(len(letters))]
			next := append(slices.Clip(l), e)
			if _, f := event.Build(next); f == api.ErrEventForm {
				continue
			}
			order.Feed(e)
			l = next
			got := c.Take(e)
			if got != wants(l) {
				t.Fatalf("Take of event %d of %v = %d, want %d", len(l)-1, l, got, wants(l))
			}
			if got != api.OK {
				refused++
				break
			}
		}
	}
	if refused < 50 || refused > 350 {
		t.Errorf("%d of 400 are refused", refused)
	}
}

// What is refused is not counted.
func TestRefusedIsNotCounted(t *testing.T) {
	c := tally.New()
	for range 16 {
		c.Take(evList)
	}
	for range 300 {
		if c.Take(evList) != api.ErrLimit || c.Take(evTag) != api.ErrLimit || c.Take(evNull) != api.ErrLimit {
			t.Fatal("Take answers no ErrLimit")
		}
	}
	for range 255 {
		if c.Take(evEnd) != api.OK || c.Take(evList) != api.OK {
			t.Fatal("Take answers an error")
		}
	}
}

// What no checker takes does no harm, nor does no tally.
func TestWrong(t *testing.T) {
	var none *tally.Tally
	for k := api.EventKind(-3); k < 15; k++ {
		if e := none.Take(api.Event{Kind: k}); e != api.ErrNil {
			t.Errorf("Take of none = %d", e)
		}
		c := tally.New()
		for range 5 {
			c.Take(api.Event{Kind: k})
			c.Take(evEnd)
			c.Take(evEnd)
		}
	}
	if e := tally.New().Take(api.Event{Kind: math.MaxInt}); e != api.OK {
		t.Errorf("Take of an unknown kind = %d", e)
	}
}
