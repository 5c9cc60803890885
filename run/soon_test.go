package run_test

import (
	"slices"
	"strings"
	"testing"

	"calamus/api"
	"calamus/code"
)

// marks tells events by a letter or two each.
func marks(l []api.Event) string { return strings.TrimSpace(short(l)) }

// What is told as soon as it can be: of each event that comes, what is told by the Feed that brings it, and how many events are held then.
func TestSoon(t *testing.T) {
	for _, x := range []struct {
		mapping, document string
		told              []string
		held              []int
	}{
		{"id", `[1,{"a":"x"}]`, []string{"[", "1", "{", ".a", "\"x", "/", "/"}, nil},
		{"id;id", `{"$tag":["t",[]]}`, []string{"<t", "[", "/", "/"}, nil},
		{".a", `{"b":[1],"a":[2],"c":3}`, []string{"", "", "", "", "", "", "[", "2", "/", "", "", ""}, nil},
		{"[.a]", `[{"a":1},{"b":2,"a":3}]`, []string{"[", "", "", "1", "", "", "", "", "", "3", "", "/"}, nil},
		{"tag t", `[1]`, []string{"<t [", "1", "/ /"}, nil},
		{"tag t", `1`, []string{"<t 1 /"}, nil},
		{"case{t=id}", `{"$tag":["t",[1]]}`, []string{"", "[", "1", "/", ""}, nil},
		{"const 1", `[2,[]]`, []string{"1", "", "", "", ""}, nil},
		{"[const 1]", `[2,[3]]`, []string{"[", "1", "1", "", "", "/"}, nil},
		{"{}", `[1]`, []string{"{ /", "", ""}, nil},
		{"{x=id}", `[1]`, []string{"{ .x [", "1", "/ /"}, nil},
		{"{x=.a}", `{"b":1,"a":2}`, []string{"{ .x", "", "", "", "2 /", ""}, nil},
		{"totext", `1`, []string{"\"1"}, nil},
		{"[tonum]", `["1",2]`, []string{"[", "1", "2", "/"}, nil},
		{"sum", `[1,2]`, []string{"", "", "", "3"}, nil},
		{"count", `[[5,6],7]`, []string{"", "", "", "", "", "", "2"}, nil},
		{"[sum]", `[[1,2],[]]`, []string{"[", "", "", "", "3", "", "0", "/"}, nil},
		{"[.a];[tonum];sum;totext", `[{"a":"1"},{"a":"2"}]`, []string{"", "", "", "", "", "", "", "", "", "\"3"}, nil},
		// records of more than one element: what is ahead of its turn is held
		{"{a=.x,b=.y}", `{"x":1,"y":[2]}`, []string{"{ .a", "", "1 .b", "", "[", "2", "/ /", ""}, nil},
		{"{a=.x,b=.y}", `{"y":[2],"x":1}`, []string{"{ .a", "", "", "", "", "", "1 .b [ 2 / /", ""}, []int{0, 0, 1, 2, 3, 3, 0, 0}},
		{"{n=count,l=id}", `[5,6]`, []string{"{ .n", "", "", "2 .l [ 5 6 / /"}, []int{1, 2, 3, 0}},
		{"{l=id,n=count}", `[5,6]`, []string{"{ .l [", "5", "6", "/ .n 2 /"}, nil},
		{"{s=sum,n=count,l=id}", `[5]`, []string{"{ .s", "", "5 .n 1 .l [ 5 / /"}, []int{1, 2, 0}},
		{"{a=id,b=const 1,c=id}", `[2]`, []string{"{ .a [", "2", "/ .b 1 .c [ 2 / /"}, []int{2, 3, 0}},
		{"{a=const 1,b=const 2,c=id}", `[3]`, []string{"{ .a 1 .b 2 .c [", "3", "/ /"}, nil},
		{"[{a=id,b=id}]", `[1,[2]]`, []string{"[", "{ .a 1 .b 1 /", "{ .a [", "2", "/ .b [ 2 / /", "/"}, []int{0, 0, 1, 2, 0, 0}},
		{"{a=id,b=id};.b", `[1]`, []string{"", "", "[ 1 /"}, []int{1, 2, 0}},
		{"{a={b=id,c=id},d=id}", `[1]`, []string{"{ .a { .b [", "1", "/ .c [ 1 / / .d [ 1 / /"}, []int{2, 4, 0}},
		{"{a=id,b=id};{c=id,d=id}", `1`, []string{"{ .c { .a 1 .b 1 / .d { .a 1 .b 1 / /"}, nil},
	} {
		y := newTalk(t, mappingOf(t, x.mapping))
		for i, e := range eventsOf(valueOf(t, x.document)) {
			was, held := len(y.told), 0
			y.feed([]api.Event{e})
			if x.held != nil {
				held = x.held[i]
			}
			if got := marks(y.told[was:]); i >= len(x.told) || got != x.told[i] || y.m.Held() != held {
				t.Errorf("P19.2: %s, fed %s: tells %s by the last, holds %d, want %q, %d", x.mapping, short(y.fed), got, y.m.Held(), x.told, held)
			}
		}
		if !y.m.Done() || len(y.fed) != len(x.told) {
			t.Errorf("P19.3: %s, fed %s: not done", x.mapping, short(y.fed))
		}
	}
}

// documents are rows of events, each of a value's, of which some have more within them than a value's may have.
func documents() [][]api.Event {
	many, pairs, all := []api.Event{evList}, []api.Event{evList}, []api.Event{evRecord, evName("a")}
	for range 2000 {
		many = append(many, evNum("1"))
		pairs = append(pairs, evRecord, evName("b"), evList, evEnd, evName("a"), evText("1"), evEnd)
	}
	for range 200 {
		all = append(all, evList)
	}
	all = append(append(all, evNull), slices.Repeat([]api.Event{evEnd}, 200)...)
	return [][]api.Event{
		append(many, evEnd), append(pairs, evEnd), append(all, evEnd), eventsOf(sizedOf(4096)), eventsOf(under(15, null)), eventsOf(list(times(256, list(times(14, number("1", 0))...))...)),
		eventsOf(recordOf("b a", sizedOf(2000), text(strings.Repeat("1", 5000)))), eventsOf(tagged("a", list(times(256, tagged("b", recordOf("a", null)))...))),
	}
}

// P19.4, T8: a program that streams holds next to nothing, whatever is fed, and in whatever parts; talk asks for less than the chapter allows.
func TestStreamsHoldLittle(t *testing.T) {
	all, streaming := documents(), 0
	exprs := smallExprs()
	for _, s := range []string{"[{x=.a};tag t;case{t=.x}]", ".a;[tag a];[case{a=id}]", "[.a];[tonum];sum", "{x=[{y={z=id}}]};.x", "[[totext];count];sum", "case{a=[case{b=.a,c=const 1}]}", "[const 1];{a=tag t}"} {
		exprs = append(exprs, mappingOf(t, s))
	}
	for i, e := range exprs {
		if l, _ := code.Compile(e); !isStreaming(l) {
			continue
		}
		streaming++
		for k, l := range all {
			if k%3 == i%3 {
				talkOf(t, e, l, func(left int) int { return min(left, 1+i%50) })
			}
		}
	}
	if streaming < 500 {
		t.Errorf("only %d programs stream", streaming)
	}
}

func isStreaming(l []api.Node) bool {
	streams, bad := code.Streams(l)
	return bad == api.OK && streams
}

// P19.4: a machine whose mapping is OpId tells each event by the Feed that brings it, also of a value that is beyond the limits.
func TestIdTellsAll(t *testing.T) {
	all := append(documents(), eventsOf(sizedOf(4097)), eventsOf(under(40, null)), eventsOf(text(strings.Repeat("a", 4097))), eventsOf(tagged(strings.Repeat("a", 65), null)))
	for _, l := range all {
		for _, next := range []cut{oneByOne, threeEach, atOnce} {
			if x := talkOf(t, id, l, next); x.bad != api.OK || !slices.Equal(x.told, l) || !x.m.Done() {
				t.Errorf("P19.4: id, fed %s, tells %s, %d", short(l), short(x.told), x.bad)
			}
		}
	}
}
