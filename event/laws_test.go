package event_test

import (
	"math/rand"
	"slices"
	"testing"

	"calamus/api"
	"calamus/event"
)

// P5.4: what is flattened is built as the same, and what is built is flattened to the same events.
func TestThereAndBack(t *testing.T) {
	r := rand.New(rand.NewSource(55))
	vs, _ := scalars()
	for range 3000 {
		vs = append(vs, someValue(r, 6))
	}
	for _, v := range vs {
		l, e := event.Flatten(v)
		w, f := event.Build(l)
		if e != api.OK || f != api.OK || !same(v, w) {
			t.Errorf("P5.4: %s: Flatten = %d, Build = %d", short(l), e, f)
		}
		m, e := event.Flatten(w)
		if e != api.OK || !slices.Equal(l, m) {
			t.Errorf("P5.4: %s: flattened again %s, %d", short(l), short(m), e)
		}
	}
	for _, x := range over() {
		v, e := event.Build(x.just)
		l, f := event.Flatten(v)
		if e != api.OK || f != api.OK || !slices.Equal(l, x.just) {
			t.Errorf("P5.4: %s: Build = %d, Flatten = %s, %d", short(x.just), e, short(l), f)
		}
	}
}

// P5.4: the checker takes just what Build finds no fault in, event by event, and is done just at the end.
func TestCheckerAndBuild(t *testing.T) {
	r := rand.New(rand.NewSource(56))
	long := evTag("ttttttttttttttttttttttttttttttttttttttttttttttttttttttttttttttttttt")
	letters := row(evNull, evNull, evOne, evList, evRecord, evTag("a"), long, evName("a"), evName("b"), evName("c"), evName("a"), evEnd, evEnd, evEnd)
	faults, done, limits := 0, 0, 0
	for range 30000 {
		c := event.New()
		var l []api.Event
		for range 12 {
			l = append(l, letters[r.Intn(len(letters))])
			fed := c.Feed(l[len(l)-1])
			_, built := event.Build(l)
			if (fed == api.OK) != (built != api.ErrEventForm) {
				t.Fatalf("P5.4: %s: Feed = %d, Build = %d", short(l), fed, built)
			}
			if c.Done() != (built == api.OK || built == api.ErrLimit) {
				t.Fatalf("P5.4: %s: Done = %v, Build = %d", short(l), c.Done(), built)
			}
			if built == api.ErrLimit {
				limits++
			}
			if c.Done() {
				done++
			}
			if fed != api.OK {
				faults++
				break
			}
		}
	}
	if faults < 1000 || done < 1000 || limits < 100 {
		t.Errorf("too few: %d faults, %d done, %d beyond a limit", faults, done, limits)
	}
}
