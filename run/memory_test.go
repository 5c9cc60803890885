package run_test

import (
	"fmt"
	"math/rand"
	"slices"
	"testing"

	"calamus/api"
	"calamus/code"
	"calamus/run"
)

// roomyRow and roomyEvents are copies whose lists have spare room, in which something stands.
func roomyRow(l []api.Node) []api.Node {
	var room []api.Node
	for _, n := range l {
		n.Names = append(slices.Clone(n.Names), "spare", "\xff")[:len(n.Names)]
		n.Kids = append(slices.Clone(n.Kids), 1, -99)[:len(n.Kids)]
		room = append(room, n)
	}
	return append(room, api.Node{Op: 99}, api.Node{Op: api.OpId})[:len(l)]
}

func roomyEvents(l []api.Event) []api.Event {
	return append(slices.Clone(l), evEnd, api.Event{Kind: 99}, evNull)[:len(l)]
}

// allRow tells all that a row holds, with what stands in the spare room.
func allRow(l []api.Node) string {
	s := fmt.Sprint(len(l))
	for _, n := range l[:cap(l)] {
		s += fmt.Sprintf("; %d %q %q %d %v %d %v", n.Op, n.Name, n.Names[:cap(n.Names)], len(n.Names), n.Kids[:cap(n.Kids)], len(n.Kids), n.Value)
	}
	return s
}

// spoilRow and spoilEvents write over all that was handed in, or came out, spare room and all.
func spoilRow(l []api.Node) {
	for i, n := range l[:cap(l)] {
		for k := range n.Names[:cap(n.Names)] {
			n.Names[:cap(n.Names)][k] = "spoilt"
		}
		for k := range n.Kids[:cap(n.Kids)] {
			n.Kids[:cap(n.Kids)][k] = 99
		}
		l[:cap(l)][i] = api.Node{Op: 98}
	}
}

func spoilEvents(l []api.Event) {
	for i := range l[:cap(l)] {
		l[:cap(l)][i] = evText("spoilt")
	}
}

// spoiling feeds events in parts to a machine of e, and writes over all that was handed in and came out as soon as it can.
func spoiling(t *testing.T, e api.Expr, l []api.Event, next cut) (told []api.Event, bad api.Errno) {
	t.Helper()
	row, _ := code.Compile(e)
	room := roomyRow(row)
	was := allRow(room)
	m, worse := run.New(room)
	if worse != api.OK || allRow(room) != was {
		t.Fatalf("R2: New(%s) = %d, and changes it", short(e), worse)
	}
	spoilRow(room)
	for len(l) > 0 && bad == api.OK {
		n := next(len(l))
		part, room := l[:n], roomyEvents(l[:n])
		var got []api.Event
		got, bad = m.Feed(room)
		told = append(told, got...)
		if again := roomyEvents(part); !slices.Equal(room[:cap(room)][:n+3], again[:n+3]) {
			t.Errorf("R2: %s, fed %s, changes that", short(e), short(part))
		}
		spoilEvents(got)
		spoilEvents(room)
		l = l[n:]
	}
	return told, bad
}

// R2: what is handed in is not written into, nor its spare room, and not kept; what comes out is new memory.
func TestMemory(t *testing.T) {
	r := rand.New(rand.NewSource(197))
	for range 4000 {
		v := someValue(r, 1+r.Intn(5))
		e := taking(r, v, 1+r.Intn(5))
		l := eventsOf(v)
		if r.Intn(8) == 0 {
			l = changed(r, l)
		}
		x := talkOf(t, e, l, oneByOne)
		if told, bad := spoiling(t, e, l, oneByOne); bad != x.bad || !slices.Equal(told, x.told) {
			t.Errorf("R2: %s, fed %s, tells %s, %d, want %s, %d", short(e), short(l), short(told), bad, short(x.told), x.bad)
		}
		if told, bad := spoiling(t, e, l, someParts(r)); x.bad == api.OK && (bad != api.OK || !slices.Equal(told, x.told)) {
			t.Errorf("R2: %s, fed %s, tells %s, %d, want %s", short(e), short(l), short(told), bad, short(x.told))
		}
	}
}

// R2: machines know nothing of one another, also those that were made of one row; what a machine told before an error stays.
func TestMachinesApart(t *testing.T) {
	r := rand.New(rand.NewSource(198))
	for range 1000 {
		v, w := someValue(r, 4), someValue(r, 4)
		e := taking(r, v, 4)
		row, _ := code.Compile(e)
		var machines [2]*run.Machine
		var told [2][]api.Event
		var bad [2]api.Errno
		for i := range machines {
			machines[i], _ = run.New(row)
		}
		left := [2][]api.Event{eventsOf(v), eventsOf(w)}
		for len(left[0])+len(left[1]) > 0 {
			i := r.Intn(2)
			n := min(len(left[i]), r.Intn(4))
			var l []api.Event
			l, bad[i] = machines[i].Feed(left[i][:n])
			told[i], left[i] = append(told[i], l...), left[i][n:]
		}
		for i, u := range []api.Value{v, w} {
			x := talkOf(t, e, eventsOf(u), oneByOne)
			if x.bad == api.OK && !slices.Equal(told[i], x.told) || (bad[i] == api.OK) != (x.bad == api.OK) || machines[i].Done() != (x.bad == api.OK) {
				t.Errorf("R2: %s of %s beside another machine tells %s, %d, want %s, %d", short(e), short(u), short(told[i]), bad[i], short(x.told), x.bad)
			}
		}
	}
}

// R2: answers of one machine share no memory with one another, however they are added to.
func TestAnswersApart(t *testing.T) {
	x := mappingOf(t, "{a=id,b=id}")
	m, _ := machineOf(t, x)
	var answers [][]api.Event
	for _, e := range eventsOf(list(null, list(null, flag(true)), text("a"), recordOf("a", null))) {
		l, bad := m.Feed([]api.Event{e})
		if bad != api.OK {
			t.Fatalf("P19.2: %d", bad)
		}
		answers = append(answers, l)
	}
	was := make([]string, len(answers))
	for i, l := range answers {
		was[i] = fmt.Sprint(l)
	}
	for i, l := range answers {
		spoilEvents(l)
		for k := range answers {
			if k != i && fmt.Sprint(answers[k]) != was[k] {
				t.Errorf("R2: answer %d shares memory with answer %d", i, k)
			}
		}
		was[i] = fmt.Sprint(l)
	}
}

// R4: what an event that is told has no meaning for is zero, also where empty lists with room stand in the program.
func TestToldIsBare(t *testing.T) {
	odd := api.Value{Kind: api.KindText, Text: "a", Names: []string{}, List: []api.Value{}}
	for _, x := range []struct {
		e    api.Expr
		v    api.Value
		want api.Event
	}{
		{toText, number("1", 0), evText("1")},
		{toText, flag(true), evText("true")},
		{toText, flag(false), evText("false")},
		{toNum, text("1"), evNum("1")},
		{count, list(null), evNum("1")},
		{sum, list(), evNum("0")},
		{constant(odd), null, evText("a")},
		{constant(null), text("a"), evNull},
		{constant(flag(true)), number("1", 0), api.Event{Kind: api.EvBool, Flag: true}},
		{pipe(tag("a"), constant(number("5", -1))), text("a"), api.Event{Kind: api.EvNum, Num: api.Num{Digits: "5", Exp: -1}}},
	} {
		if y := talkOf(t, x.e, eventsOf(x.v), atOnce); y.bad != api.OK || !slices.Equal(y.told, []api.Event{x.want}) {
			t.Errorf("R4: %s of %s tells %v, %d", short(x.e), short(x.v), y.told, y.bad)
		}
	}
}
