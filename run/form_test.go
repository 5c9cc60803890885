package run_test

import (
	"math"
	"math/rand"
	"slices"
	"strings"
	"testing"

	"calamus/api"
	"calamus/event"
)

// alphabet are events of all kinds, few of each, and some that may not be.
func alphabet() []api.Event {
	return []api.Event{evNull, evNum("1"), evList, evRecord, evEnd, evName("a"), evName("b"), evTag("a"), evText("1"), {Kind: 12}}
}

// notEvents are structs that are no events, each for a reason of its own.
func notEvents() []api.Event {
	return []api.Event{{}, {Kind: -1}, {Kind: 12}, {Kind: math.MaxInt}, {Kind: math.MinInt}, {Kind: api.EvNull, Text: "a"}, {Kind: api.EvNull, Flag: true}, {Kind: api.EvBool, Bits: 1}, {Kind: api.EvNum}, evNum("10"), evNum("01"), {Kind: api.EvNum, Num: api.Num{Digits: "1", Exp: 401}}, evNum(strings.Repeat("1", 41)),
		{Kind: api.EvFloat, Text: "a"}, evText("\xff"), {Kind: api.EvText, Flag: true}, {Kind: api.EvBytes, Num: api.Num{Neg: true}}, {Kind: api.EvList, Text: "a"}, {Kind: api.EvRecord, Bits: 1}, evTag("\xff"), {Kind: api.EvTag, Flag: true}, evName("\xc3"), {Kind: api.EvName, Num: api.Num{Exp: 1}}, {Kind: api.EvEnd, Text: "a"}, {Kind: api.EvEnd, Flag: true}}
}

// takingAll are mappings that refuse nothing, takingSome such that do.
func takingAll() []api.Expr {
	return []api.Expr{id, constant(null), record(""), record("a", id), record("a b", id, id), tag("a"), pipe(id, id), pipe(tag("a"), cases("a", id)), pipe(record("a b", constant(null), id), get("b")), record("a b c", constant(null), constant(text("1")), tag("b"))}
}

func takingSome() []api.Expr {
	return []api.Expr{get("a"), mapOf(id), mapOf(get("a")), sum, count, toNum, toText, cases("a", id), cases(""), record("a b", get("a"), get("b")), pipe(get("a"), constant(null)), mapOf(record("a b", id, id))}
}

// rows are all rows of up to n events that are the beginning of a value's, and each of those shorter than n with one more event that is wrong there.
func rows(n int) (fine, wrong [][]api.Event) {
	ends := [][]api.Event{nil}
	for range n {
		var longer [][]api.Event
		for _, row := range ends {
			for _, e := range alphabet() {
				next := append(slices.Clone(row), e)
				if isBeginning(next) {
					longer = append(longer, next)
				} else {
					wrong = append(wrong, next)
				}
			}
		}
		fine, ends = append(fine, ends...), longer
	}
	return append(fine, ends...), wrong
}

// isBeginning tells whether events are the beginning of a value's.
func isBeginning(l []api.Event) bool {
	c := event.New()
	for _, e := range l {
		if c.Feed(e) != api.OK {
			return false
		}
	}
	return true
}

// P19.2: of all rows of few events just those that are a beginning of a value's are taken, in whatever parts they come.
func TestAllRows(t *testing.T) {
	fine, wrong := rows(5)
	for i, e := range append(takingAll(), takingSome()...) {
		for k, row := range fine {
			x := talkOf(t, e, row, []cut{oneByOne, atOnce}[(i+k)%2])
			if i < len(takingAll()) && x.bad != api.OK || x.bad == api.ErrEventForm {
				t.Errorf("P19.2: %s, fed %s: %d", short(e), short(row), x.bad)
			}
		}
		for k, row := range wrong {
			x := talkOf(t, e, row, []cut{oneByOne, atOnce}[(i+k)%2])
			if x.bad != api.ErrEventForm && (i < len(takingAll()) || (i+k)%2 == 1 || x.bad == api.OK) {
				t.Errorf("P19.2: %s, fed %s: %d", short(e), short(row), x.bad)
			}
		}
	}
	if len(fine) < 1000 || len(wrong) < 1000 {
		t.Errorf("only %d rows are fine, %d wrong", len(fine), len(wrong))
	}
}

// P19.2: what is no event is refused wherever it comes.
func TestNoEvents(t *testing.T) {
	open := [][]api.Event{nil, {evList}, {evList, evNull}, {evRecord}, {evRecord, evName("a")}, {evTag("a")}, {evTag("a"), evNull}, {evNull}, {evList, evRecord, evName("a"), evNum("1")}, {evTag("a"), evList, evList, evEnd}}
	for _, e := range takingAll() {
		for _, l := range open {
			for _, no := range notEvents() {
				for _, next := range []cut{oneByOne, atOnce} {
					if x := talkOf(t, e, append(slices.Clone(l), no), next); x.bad != api.ErrEventForm || x.m.Held() != 0 {
						t.Errorf("P19.2: %s, fed %s and %v: %d, holds %d", short(e), short(l), no, x.bad, x.m.Held())
					}
				}
			}
		}
	}
}

// P19.2: events that are no beginning of a value's are told so by the Feed that brings the one at which that is so, whatever else is wrong with those that it brings; what an earlier one told stays.
func TestFormFirst(t *testing.T) {
	for _, x := range []struct {
		e       api.Expr
		l       []api.Event
		oneEach api.Errno
	}{
		{get("a"), []api.Event{evNull, evEnd}, api.ErrEvalType},
		{get("a"), []api.Event{evRecord, evEnd, evEnd}, api.ErrEvalType},
		{get("a"), []api.Event{evRecord, evNull}, api.ErrEventForm},
		{get("a"), []api.Event{evRecord, evName("a"), evNull, evName("a")}, api.ErrEventForm},
		{toNum, []api.Event{evText("x"), evNull}, api.ErrEvalCoerce},
		{toNum, []api.Event{evText("\xff"), evNull}, api.ErrEventForm},
		{sum, []api.Event{evList, evText("x"), evNull, {Kind: 12}}, api.ErrEvalType},
		{tag("a"), append(slices.Repeat([]api.Event{evList}, 17), evName("a")), api.ErrLimit},
		{mapOf(id), append(append([]api.Event{evList}, slices.Repeat([]api.Event{evNull}, 300)...), evName("a")), api.ErrLimit},
		{id, []api.Event{evNull, evNull}, api.ErrEventForm},
	} {
		if y := talkOf(t, x.e, x.l, atOnce); y.bad != api.ErrEventForm {
			t.Errorf("P19.2: %s, fed %s: %d, want %d", short(x.e), short(x.l), y.bad, api.ErrEventForm)
		}
		if y := talkOf(t, x.e, x.l, oneByOne); y.bad != x.oneEach {
			t.Errorf("P19.2: %s, fed %s one by one: %d, want %d", short(x.e), short(x.l), y.bad, x.oneEach)
		}
	}
}

// P19.2, R1: changed events of all sorts.
func TestChanged(t *testing.T) {
	r := rand.New(rand.NewSource(196))
	told := map[api.Errno]int{}
	for range 20000 {
		v := someValue(r, 1+r.Intn(5))
		e := taking(r, v, 1+r.Intn(4))
		told[talkOf(t, e, changed(r, eventsOf(v)), someParts(r)).bad]++
	}
	if told[api.OK] < 2500 || told[api.ErrEventForm] < 2500 || told[api.ErrEvalType] < 500 {
		t.Errorf("only %v answers", told)
	}
}
