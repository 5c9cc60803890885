package event_test

import (
	"math/rand"
	"slices"
	"strings"
	"testing"

	"calamus/api"
	"calamus/event"
)

// wantValue asks for a value from Build.
func wantValue(t *testing.T, l []api.Event, want api.Value) {
	t.Helper()
	if v, e := event.Build(l); e != api.OK || !same(v, want) {
		t.Errorf("P5.2: %s: Build = Kind %d with %d values, %d", short(l), v.Kind, len(v.List), e)
	}
}

// wantRefused asks for an error from Build.
func wantRefused(t *testing.T, l []api.Event, want api.Errno) {
	t.Helper()
	if v, e := event.Build(l); e != want || !isZero(v) {
		t.Errorf("P5.2: %s: Build = Kind %d, %d, want %d", short(l), v.Kind, e, want)
	}
}

// wantReckoned asks for what is reckoned apart, on events within the limits.
func wantReckoned(t *testing.T, l []api.Event) {
	t.Helper()
	switch f, v := reckon(l); f {
	case whole:
		wantValue(t, l, v)
	case cut:
		wantRefused(t, l, api.ErrEventEnd)
	case fault:
		wantRefused(t, l, api.ErrEventForm)
	}
}

// P5.2 of values of each Kind.
func TestBuildKinds(t *testing.T) {
	vs, es := scalars()
	for i, v := range vs {
		wantValue(t, row(es[i]), v)
		wantValue(t, row(evList, evOne, es[i], evEnd), list(one, v))
		wantValue(t, row(evRecord, evName("a"), es[i], evName("b"), es[i], evEnd), record("a b", v, v))
		wantValue(t, row(evTag("t"), es[i], evEnd), tag("t", v))
	}
	wantValue(t, row(evList, evEnd), list())
	wantValue(t, row(evRecord, evEnd), record(""))
	wantValue(t, row(evTag(""), evList, evEnd, evEnd), tag("", list()))
	wantValue(t, row(evRecord, evName(""), evRecord, evEnd, evEnd), api.Value{Kind: api.KindRecord, Names: []string{""}, List: []api.Value{record("")}})
}

// P5.2 of events that may not be: alone, within each part, behind a whole value, behind what passes a limit, ahead of what is missing.
func TestBuildWrongEvents(t *testing.T) {
	long := evText(strings.Repeat("a", 4097))
	for _, e := range wrong() {
		for _, l := range [][]api.Event{
			row(e), row(e, evNull), row(e, evEnd), row(evNull, e), row(evList, e), row(evList, e, evEnd), row(evList, evNull, e, evEnd),
			row(evRecord, e), row(evRecord, e, evEnd), row(evRecord, e, evNull, evEnd), row(evRecord, evName("n"), e), row(evRecord, evName("n"), e, evEnd),
			row(evTag("t"), e), row(evTag("t"), e, evEnd), row(evTag("t"), evNull, e), row(evList, evEnd, e),
			row(evList, long, e), row(evList, long, e, evEnd), row(times(20, evList), e), row(times(20, evList), e, times(20, evEnd)),
		} {
			wantRefused(t, l, api.ErrEventForm)
		}
	}
}

// P5.2 of events that may be, in places where they may not.
func TestBuildWrongPlaces(t *testing.T) {
	a, b := evName("a"), evName("b")
	for _, l := range [][]api.Event{
		row(evEnd), row(a), row(a, evNull), row(evEnd, evEnd), row(evEnd, evNull),
		row(evList, a), row(evList, a, evNull, evEnd), row(evList, evNull, a), row(evTag("t"), a), row(evTag("t"), a, evNull, evEnd), row(evTag("t"), evNull, a), row(evNull, a),
		row(evRecord, evNull), row(evRecord, evNull, evEnd), row(evRecord, evList), row(evRecord, evRecord), row(evRecord, evTag("t")), row(evRecord, a, evNull, evNull), row(evRecord, a, evList, evEnd, evNull), row(evRecord, a, evList, evEnd, evList),
		row(evRecord, a, b), row(evRecord, a, a), row(evRecord, a, b, evNull, evNull, evEnd), row(evRecord, a, evNull, b, a), row(evRecord, a, evEnd), row(evRecord, a, evNull, b, evEnd),
		row(evRecord, a, evNull, a), row(evRecord, a, evNull, b, evNull, a), row(evRecord, a, evNull, b, evNull, b), row(evRecord, a, evRecord, a, evNull, evEnd, a), row(evRecord, a, evRecord, b, evNull, evEnd, a), row(evRecord, a, evRecord, a, evNull, a),
		row(evList, evRecord, a, evNull, evEnd, a), row(evRecord, evName(""), evNull, evName("")), row(evRecord, evName("\u00e9"), evNull, evName("\u00e9")),
		row(evTag("t"), evEnd), row(evTag("t"), evNull, evNull), row(evTag("t"), evNull, evNull, evEnd), row(evTag("t"), evList, evEnd, evList), row(evTag("t"), evTag("t"), evNull, evEnd, evNull), row(evTag("t"), evTag("t"), evEnd),
		row(evNull, evNull), row(evNull, evEnd), row(evNull, evList), row(evList, evEnd, evNull), row(evList, evEnd, evEnd), row(evList, evEnd, evList), row(evRecord, evEnd, evRecord), row(evRecord, evEnd, a), row(evTag("t"), evNull, evEnd, evTag("t")), row(evTag("t"), evNull, evEnd, evEnd),
	} {
		for _, m := range [][]api.Event{
			l, row(l, evNull), row(l, evEnd), row(l, a, evNull),
			row(evList, evList, l), row(evRecord, evName("x"), l), row(evTag("t"), l),
		} {
			if f, _ := reckon(m); f == fault { // a list around two values makes one of them
				wantRefused(t, m, api.ErrEventForm)
			}
		}
		wantRefused(t, l, api.ErrEventForm)
	}
}

// P5.2: the same name may stand in records within one another, and beside one another, and as a tag's.
func TestBuildNames(t *testing.T) {
	a, b := evName("a"), evName("b")
	wantValue(t, row(evRecord, a, evRecord, a, evRecord, a, evNull, evEnd, evEnd, evEnd), record("a", record("a", record("a", null))))
	wantValue(t, row(evRecord, a, evRecord, b, evNull, a, evNull, evEnd, b, evNull, evEnd), record("a b", record("b a", null, null), null))
	wantValue(t, row(evList, evRecord, a, evNull, evEnd, evRecord, a, evOne, evEnd, evEnd), list(record("a", null), record("a", one)))
	wantValue(t, row(evRecord, a, evTag("a"), evText("a"), evEnd, evName("A"), evNull, evName("aa"), evNull, evEnd), record("a A aa", tag("a", text("a")), null, null))
	wantValue(t, row(evRecord, evName("\u00e9"), evNull, evName("e\u0301"), evNull, evEnd), record("\u00e9 e\u0301", null, null))
	for _, at := range []int{0, 1, 127, 199, 254} {
		l := wide(256)
		l[1+2*255] = l[1+2*at]
		wantRefused(t, l, api.ErrEventForm)
		wantRefused(t, l[:2+2*255], api.ErrEventForm)
	}
}

// P5.2: each beginning of a value's events, and no events at all.
func TestBuildBeginnings(t *testing.T) {
	wantRefused(t, nil, api.ErrEventEnd)
	wantRefused(t, []api.Event{}, api.ErrEventEnd)
	r := rand.New(rand.NewSource(52))
	for range 1000 {
		l := plain(someValue(r, 5))
		for n := range l {
			wantRefused(t, l[:n], api.ErrEventEnd)
		}
		wantRefused(t, row(l, evNull), api.ErrEventForm)
		wantRefused(t, row(l, evEnd), api.ErrEventForm)
		wantRefused(t, row(l, l), api.ErrEventForm)
	}
}

// over are the events of values that pass each limit, and just meet it.
func over() []struct{ just, over []api.Event } {
	a := func(n int) string { return strings.Repeat("a", n) }
	deep := func(n int) []api.Event { return row(times(n-1, evList), evNull, times(n-1, evEnd)) }
	named := func(n int) []api.Event { return row(evRecord, evName("b"), evNull, evName(a(n)), evNull, evEnd) }
	two := strings.Repeat("\u00e9", 2048)
	return []struct{ just, over []api.Event }{
		{row(evText(a(4096))), row(evText(a(4097)))},
		{row(evText(two)), row(evText(two + "a"))},
		{row(evBytes(a(4096))), row(evBytes(a(4097)))},
		{row(evTag(a(64)), evNull, evEnd), row(evTag(a(65)), evNull, evEnd)},
		{named(64), named(65)},
		{row(evList, times(256, evNull), evEnd), row(evList, times(257, evNull), evEnd)},
		{wide(256), wide(257)},
		{wide(256), wide(3000)},
		{deep(16), deep(17)},
		{row(times(16, evList), times(16, evEnd)), row(times(17, evList), times(17, evEnd))},
		{row(times(16, evRecord, evName("a"))[:31], times(16, evEnd)), row(times(17, evRecord, evName("a"))[:33], times(17, evEnd))},
		{row(times(15, evTag("t")), evNull, times(15, evEnd)), row(times(16, evTag("t")), evNull, times(16, evEnd))},
		{sized(4096), sized(4097)},
		{sized(4095), row(evList, sized(4096), evEnd)},
		{sized(4000), row(evList, sized(2048), sized(2048), evEnd)},
		{row(evList, wide(200), evEnd), row(evList, wide(300), evEnd)},
	}
}

// P5.2: each limit, just met and just passed; of beginnings and of what has a fault behind it no limit is asked.
func TestBuildLimits(t *testing.T) {
	for _, x := range over() {
		f, v := reckon(x.just)
		if f != whole {
			t.Fatalf("%s is not whole", short(x.just))
		}
		wantValue(t, x.just, v)
		for _, l := range [][]api.Event{x.over, row(evList, x.over, evNull, evEnd), row(evTag("t"), x.over, evEnd), row(evRecord, evName("a"), x.over, evName("b"), evOne, evEnd)} {
			wantRefused(t, l, api.ErrLimit)
			wantRefused(t, row(l, evNull), api.ErrEventForm)
			wantRefused(t, row(l, evEnd), api.ErrEventForm)
			wantRefused(t, row(l, api.Event{}), api.ErrEventForm)
			for n := len(l) - 1; n >= 0; n = n*9/10 - 1 {
				wantRefused(t, l[:n], api.ErrEventEnd)
				wantRefused(t, row(l[:n], api.Event{}), api.ErrEventForm)
			}
		}
		wantRefused(t, row(evList, x.over), api.ErrEventEnd)
		wantRefused(t, row(evList, x.over, evName("a")), api.ErrEventForm)
		wantRefused(t, row(evRecord, evName("a"), x.over, evName("a")), api.ErrEventForm)
		wantRefused(t, row(evTag("t"), x.over, evNull), api.ErrEventForm)
	}
}

// P5.2 of very many events, one in another and one beside another.
func TestBuildGreat(t *testing.T) {
	const n = 1 << 16
	for _, begin := range [][]api.Event{row(evList), row(evTag("t")), row(evRecord, evName("a"))} {
		wantRefused(t, times(n, begin...), api.ErrEventEnd)
		wantRefused(t, row(times(n, begin...), evNull, times(n-1, evEnd)), api.ErrEventEnd)
		wantRefused(t, row(times(n-1, begin...), evNull, times(n-1, evEnd)), api.ErrLimit)
		wantRefused(t, row(times(n-1, begin...), evNull, times(n, evEnd)), api.ErrEventForm)
	}
	wantRefused(t, row(evList, times(n, evNull), evEnd), api.ErrLimit)
	wantRefused(t, wide(n), api.ErrLimit)
	l := wide(n)
	l[1+2*(n-1)] = l[1]
	wantRefused(t, l, api.ErrEventForm)
}

// P5.2 of all short lists of events.
func TestBuildAllShort(t *testing.T) {
	letters := []api.Event{evNull, evList, evRecord, evTag("a"), evName("a"), evName("b"), evEnd}
	eachRow(letters, 5, nil, func(l []api.Event) { wantReckoned(t, l) })
}

// P5.2 of values' events that are changed in some places.
func TestBuildChanged(t *testing.T) {
	r := rand.New(rand.NewSource(53))
	_, es := scalars()
	letters := row(evNull, evOne, evList, evRecord, evTag("a"), evTag(""), evName("a"), evName("b"), evName(""), evEnd, evEnd, api.Event{}, evText("\xff"), es[len(es)-1])
	seen := map[found]int{}
	for range 20000 {
		l := plain(someValue(r, 5))
		for range 1 + r.Intn(2) {
			at := r.Intn(len(l) + 1)
			e := letters[r.Intn(len(letters))]
			switch k := r.Intn(4); {
			case k == 0 || at == len(l):
				l = slices.Insert(l, at, e)
			case k == 1:
				l = slices.Delete(l, at, at+1)
			case k == 2:
				l[at] = e
			default:
				o := r.Intn(len(l))
				l[at], l[o] = l[o], l[at]
			}
		}
		wantReckoned(t, l)
		f, _ := reckon(l)
		seen[f]++
	}
	if seen[whole] < 1000 || seen[cut] < 1000 || seen[fault] < 1000 {
		t.Errorf("too few of some: %v", seen)
	}
}

// R2: the events are not written into nor kept, and lists within one answer share no memory.
func TestBuildMemory(t *testing.T) {
	all := row(evRecord, evName("a"), evList, evOne, evEnd, evName("b"), evList, evNull, evOne, evNull, evEnd, evName("c"), evRecord, evName("d"), evNull, evEnd, evEnd, evText("spare"), evText("spare"))
	l := all[:len(all)-2]
	before := slices.Clone(all)
	want := record("a b c", list(one), list(null, one, null), record("d", null))
	v, e := event.Build(l)
	if e != api.OK || !same(v, want) || !slices.Equal(all, before) {
		t.Errorf("R2: Build = %v, %d, or writes into its argument", v, e)
	}
	w, _ := event.Build(l)
	clear(all)
	if !same(v, want) {
		t.Errorf("R2: Build keeps its argument")
	}
	for i := range v.List {
		_ = append(v.List[i].List, text("more"), text("more"))
		_ = append(v.List[i].Names, "more", "more")
	}
	_ = append(v.Names, "more")
	if !same(v, want) {
		t.Errorf("R2: lists of one answer share memory")
	}
	clear(v.List[1].List)
	clear(v.List)
	clear(v.Names)
	if !same(w, want) {
		t.Errorf("R2: two answers of Build share memory")
	}
}
