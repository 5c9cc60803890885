package event_test

import (
	"math/rand"
	"testing"

	"calamus/api"
	"calamus/event"
)

// wantFollowed feeds a new checker with l, and asks for what is reckoned apart for each beginning; and for a refusal of all behind a refusal.
func wantFollowed(t *testing.T, l []api.Event) {
	t.Helper()
	c := event.New()
	if c.Done() || c.Open() != 0 {
		t.Errorf("P5.3: at first Done = %v, Open = %d", c.Done(), c.Open())
	}
	refused := false
	for i, e := range l {
		f := fault
		if !refused {
			f, _ = reckon(l[:i+1])
		}
		refused = f == fault
		wantErr, wantOpen := api.OK, opened(l[:i+1])
		if refused {
			wantErr, wantOpen = api.ErrEventForm, 0
		}
		if got := c.Feed(e); got != wantErr {
			t.Errorf("P5.3: %s: Feed %d = %d, want %d", short(l), i, got, wantErr)
		}
		for range 2 { // asking changes nothing
			if c.Done() != (f == whole) || c.Open() != wantOpen {
				t.Errorf("P5.3: %s: behind Feed %d: Done = %v, Open = %d, want %v, %d", short(l), i, c.Done(), c.Open(), f == whole, wantOpen)
			}
		}
	}
	if refused {
		wantBroken(t, c)
	}
}

// wantBroken asks for a refusal of whatever comes.
func wantBroken(t *testing.T, c *event.Checker) {
	t.Helper()
	_, es := scalars()
	for _, e := range row(es, evList, evEnd, evRecord, evName("a"), evNull, evEnd, evTag("t"), evNull, evEnd, api.Event{}, evNull) {
		if got := c.Feed(e); got != api.ErrEventForm || c.Done() || c.Open() != 0 {
			t.Errorf("P5.3: behind a refusal: Feed = %d, Done = %v, Open = %d", got, c.Done(), c.Open())
		}
	}
}

// P5.3 of events that may not be, wherever.
func TestFeedWrongEvents(t *testing.T) {
	for _, e := range wrong() {
		for _, l := range [][]api.Event{nil, row(evList), row(evList, evNull), row(evRecord), row(evRecord, evName("n")), row(evTag("t")), row(evTag("t"), evNull), row(evNull), row(times(30, evList))} {
			c := event.New()
			for _, x := range l {
				if got := c.Feed(x); got != api.OK {
					t.Fatalf("P5.3: %s: Feed = %d", short(l), got)
				}
			}
			if got := c.Feed(e); got != api.ErrEventForm || c.Done() || c.Open() != 0 {
				t.Errorf("P5.3: %s: Feed(%v) = %d, Done = %v, Open = %d", short(l), e, got, c.Done(), c.Open())
			}
			wantBroken(t, c)
		}
	}
}

// P5.3 of all short lists of events.
func TestFeedAllShort(t *testing.T) {
	letters := []api.Event{evNull, evList, evRecord, evTag("a"), evName("a"), evName("b"), evEnd, {}}
	eachRow(letters, 4, nil, func(l []api.Event) { wantFollowed(t, l) })
}

// P5.3 of values' events, whole and changed in one place.
func TestFeedSome(t *testing.T) {
	r := rand.New(rand.NewSource(54))
	letters := row(evNull, evList, evRecord, evTag("a"), evName("a"), evName("b"), evName(""), evEnd, evEnd, evText("\xff"))
	for range 500 {
		l := plain(someValue(r, 5))
		if len(l) > 60 {
			continue
		}
		wantFollowed(t, l)
		wantFollowed(t, row(l, letters[r.Intn(len(letters))]))
		l[r.Intn(len(l))] = letters[r.Intn(len(letters))]
		wantFollowed(t, l)
	}
}

// P5.3: the checker asks for no limit.
func TestFeedBeyondLimits(t *testing.T) {
	const n = 1 << 16
	lists := [][]api.Event{
		row(times(n-1, evList), evNull, times(n-1, evEnd)),
		row(times(n-1, evTag("t")), evNull, times(n-1, evEnd)),
		row(times(n-1, evRecord, evName("a")), evNull, times(n-1, evEnd)),
		row(evList, times(n, evNull), evEnd),
		wide(n),
	}
	for _, x := range over() {
		lists = append(lists, x.over)
	}
	for _, l := range lists {
		c, open := event.New(), 0
		for i, e := range l {
			if got := c.Feed(e); got != api.OK {
				t.Fatalf("P5.3: %s: Feed %d = %d", short(l), i, got)
			}
			open += opened(l[i : i+1])
			if c.Open() != open || c.Done() != (i == len(l)-1) {
				t.Fatalf("P5.3: %s: behind Feed %d: Open = %d, Done = %v", short(l), i, c.Open(), c.Done())
			}
		}
		if got := c.Feed(evEnd); got != api.ErrEventForm {
			t.Errorf("P5.3: %s: Feed at the end = %d", short(l), got)
		}
	}
}

// R3: a nil checker.
func TestNilChecker(t *testing.T) {
	var c *event.Checker
	for _, e := range row(evNull, evEnd, evList, evName("a"), wrong()) {
		if got := c.Feed(e); got != api.ErrNil {
			t.Errorf("R3: Feed = %d", got)
		}
	}
	if c.Done() || c.Open() != 0 {
		t.Errorf("R3: Done = %v, Open = %d", c.Done(), c.Open())
	}
}

// R2: checkers know nothing of one another.
func TestCheckersApart(t *testing.T) {
	a, b, c := event.New(), event.New(), event.New()
	for _, e := range row(evRecord, evName("a"), evList) {
		a.Feed(e)
	}
	c.Feed(evEnd)
	if b.Done() || b.Open() != 0 || a.Open() != 2 || a.Done() {
		t.Errorf("R2: Done = %v, Open = %d, of another one's", b.Done(), b.Open())
	}
	for _, e := range row(evRecord, evName("a"), evNull, evEnd) {
		if got := b.Feed(e); got != api.OK {
			t.Errorf("R2: Feed = %d", got)
		}
	}
	if !b.Done() || a.Done() || c.Done() || a.Open() != 2 || event.New().Done() {
		t.Errorf("R2: Done = %v, and of others %v, %v", b.Done(), a.Done(), c.Done())
	}
	for _, e := range row(evEnd, evName("b"), evNull, evEnd) {
		if got := a.Feed(e); got != api.OK {
			t.Errorf("R2: Feed = %d", got)
		}
	}
	if !a.Done() {
		t.Errorf("R2: not done")
	}
}
