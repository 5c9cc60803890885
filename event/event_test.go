package event_test

import (
	"math"
	"math/rand"
	"slices"
	"strconv"
	"strings"
	"testing"

	"calamus/api"
	"calamus/event"
)

var (
	null = api.Value{Kind: api.KindNull}
	one  = api.Value{Kind: api.KindNum, Num: api.Num{Digits: "1"}}

	evNull   = api.Event{Kind: api.EvNull}
	evOne    = api.Event{Kind: api.EvNum, Num: api.Num{Digits: "1"}}
	evList   = api.Event{Kind: api.EvList}
	evRecord = api.Event{Kind: api.EvRecord}
	evEnd    = api.Event{Kind: api.EvEnd}
)

func evTag(s string) api.Event { return api.Event{Kind: api.EvTag, Text: s} }

func evName(s string) api.Event { return api.Event{Kind: api.EvName, Text: s} }

func evText(s string) api.Event { return api.Event{Kind: api.EvText, Text: s} }

func evBytes(s string) api.Event { return api.Event{Kind: api.EvBytes, Text: s} }

func text(s string) api.Value { return api.Value{Kind: api.KindText, Text: s} }

func raw(s string) api.Value { return api.Value{Kind: api.KindBytes, Text: s} }

func list(l ...api.Value) api.Value { return api.Value{Kind: api.KindList, List: l} }

// record has the names that are apart by a space in names.
func record(names string, l ...api.Value) api.Value {
	return api.Value{Kind: api.KindRecord, Names: strings.Fields(names), List: l}
}

func tag(name string, v api.Value) api.Value {
	return api.Value{Kind: api.KindTag, Text: name, List: []api.Value{v}}
}

// row lays events and lists of events one behind the other.
func row(parts ...any) []api.Event {
	var l []api.Event
	for _, p := range parts {
		switch x := p.(type) {
		case api.Event:
			l = append(l, x)
		case []api.Event:
			l = append(l, x...)
		}
	}
	return l
}

// times is n times the events.
func times(n int, l ...api.Event) []api.Event { return slices.Repeat(l, n) }

// eachRow shows l, and whatever there is with up to n letters behind it.
func eachRow(letters []api.Event, n int, l []api.Event, show func(l []api.Event)) {
	show(l)
	if n == 0 {
		return
	}
	for _, e := range letters {
		eachRow(letters, n-1, row(l, e), show)
	}
}

// wide is the events of a record of n nulls.
func wide(n int) []api.Event {
	l := row(evRecord)
	for i := range n {
		l = append(l, evName("n"+strconv.Itoa(i)), evNull)
	}
	return append(l, evEnd)
}

// sized is the events of a list, within the other limits, with n values in it, itself too.
func sized(n int) []api.Event {
	l := row(evList)
	for n--; n > 257; n -= 257 {
		l = row(l, evList, times(256, evNull), evEnd)
	}
	if n > 200 {
		l, n = row(l, evList, times(100, evNull), evEnd), n-101
	}
	return row(l, times(n, evNull), evEnd)
}

// scalars are values of the six Kinds without parts, each with its event.
func scalars() ([]api.Value, []api.Event) {
	var vs []api.Value
	var es []api.Event
	add := func(v api.Value, e api.Event) { vs, es = append(vs, v), append(es, e) }
	add(null, evNull)
	for _, b := range []bool{false, true} {
		add(api.Value{Kind: api.KindBool, Flag: b}, api.Event{Kind: api.EvBool, Flag: b})
	}
	nines := strings.Repeat("9", 40)
	for _, n := range []api.Num{
		{Digits: "0"}, {Digits: "1"}, {Neg: true, Digits: "1"}, {Digits: "101", Exp: -2}, {Digits: nines, Exp: 400}, {Neg: true, Digits: nines, Exp: -400},
	} {
		add(api.Value{Kind: api.KindNum, Num: n}, api.Event{Kind: api.EvNum, Num: n})
	}
	for _, b := range []uint64{0, 1, 1 << 63, 0x3ff0000000000000, 0x7ff8000000000001, math.MaxUint64} {
		add(api.Value{Kind: api.KindFloat, Bits: b}, api.Event{Kind: api.EvFloat, Bits: b})
	}
	for _, s := range []string{"", "a", "\x00", "\u00e9", "\U0010ffff", strings.Repeat("a", 4096)} {
		add(text(s), evText(s))
		add(raw(s), evBytes(s))
	}
	add(raw("\xff\x80"), evBytes("\xff\x80"))
	return vs, es
}

// plain is the events of a value, reckoned apart from Flatten: from the inside, by Kind.
func plain(v api.Value) []api.Event {
	switch v.Kind {
	case api.KindNull:
		return row(evNull)
	case api.KindBool:
		return row(api.Event{Kind: api.EvBool, Flag: v.Flag})
	case api.KindNum:
		return row(api.Event{Kind: api.EvNum, Num: v.Num})
	case api.KindFloat:
		return row(api.Event{Kind: api.EvFloat, Bits: v.Bits})
	case api.KindText:
		return row(evText(v.Text))
	case api.KindBytes:
		return row(evBytes(v.Text))
	case api.KindTag:
		return row(evTag(v.Text), plain(v.List[0]), evEnd)
	}
	var within []api.Event
	for i := len(v.List) - 1; i >= 0; i-- {
		within = row(plain(v.List[i]), within)
		if v.Kind == api.KindRecord {
			within = row(evName(v.Names[i]), within)
		}
	}
	if v.Kind == api.KindRecord {
		return row(evRecord, within, evEnd)
	}
	return row(evList, within, evEnd)
}

// someValue makes a value of up to depth deep.
func someValue(r *rand.Rand, depth int) api.Value {
	k := r.Intn(6)
	if depth < 2 {
		k = 3 + r.Intn(3)
	}
	name := func() string { return []string{"", "a", "b", "ab", "\u00e9"}[r.Intn(5)] }
	v := api.Value{}
	switch k {
	case 0:
		v.Kind = api.KindList
		for range r.Intn(5) {
			v.List = append(v.List, someValue(r, depth-1))
		}
		return v
	case 1:
		v.Kind = api.KindRecord
		for _, i := range r.Perm(5)[:r.Intn(5)] {
			v.Names = append(v.Names, []string{"", "a", "b", "ab", "\u00e9"}[i])
			v.List = append(v.List, someValue(r, depth-1))
		}
		return v
	case 2:
		return tag(name(), someValue(r, depth-1))
	}
	vs, _ := scalars()
	return vs[r.Intn(len(vs))]
}

// wrong are events that may not be, each for a reason of its own.
func wrong() []api.Event {
	l := []api.Event{
		{}, {Kind: -1}, {Kind: 12}, {Kind: 13}, {Kind: math.MaxInt}, {Kind: math.MinInt}, {Kind: 1<<32 + 1}, {Kind: 1<<32 + 11},
		{Text: "a"}, {Kind: 12, Text: "a"}, {Kind: 12, Num: api.Num{Digits: "1"}},
	}
	for k := api.EventKind(-20); k < 300; k++ {
		if k < 1 || k > 11 {
			l = append(l, api.Event{Kind: k})
		}
	}
	for _, x := range []struct {
		e    api.Event
		used string
	}{
		{evNull, ""}, {api.Event{Kind: api.EvBool}, "Flag"}, {api.Event{Kind: api.EvBool, Flag: true}, "Flag"}, {evOne, "Num"}, {api.Event{Kind: api.EvFloat, Bits: 1}, "Bits"}, {api.Event{Kind: api.EvFloat}, "Bits"},
		{evText("a"), "Text"}, {evText(""), "Text"}, {evBytes("a"), "Text"}, {evBytes(""), "Text"},
		{evList, ""}, {evRecord, ""}, {evTag("a"), "Text"}, {evTag(""), "Text"}, {evName("a"), "Text"}, {evName(""), "Text"}, {evEnd, ""},
	} {
		for _, f := range fields() {
			if f.name != x.used {
				e := x.e
				f.set(&e)
				l = append(l, e)
			}
		}
	}
	nines := strings.Repeat("9", 40)
	for _, n := range []api.Num{
		{}, {Neg: true}, {Exp: 1}, {Neg: true, Digits: "0"}, {Digits: "0", Exp: 1}, {Digits: "0", Exp: -1}, {Digits: "00"}, {Digits: "01"}, {Digits: "10"},
		{Digits: "-1"}, {Digits: "1.5"}, {Digits: "1e1"}, {Digits: " 1"}, {Digits: "a"}, {Digits: "\u0661"}, {Digits: nines + "9"},
		{Digits: "1", Exp: 401}, {Digits: "1", Exp: -401}, {Digits: "1", Exp: math.MaxInt}, {Digits: "1", Exp: math.MinInt},
	} {
		l = append(l, api.Event{Kind: api.EvNum, Num: n})
	}
	for _, s := range []string{"\x80", "\xff", "a\xc3", "\xc3a", "\xc0\x80", "\xed\xa0\x80", "\xf4\x90\x80\x80", "\xe2\x82"} {
		l = append(l, evText(s), evName(s), evTag(s))
	}
	return l
}

// field is a field of an event, set to something that is not zero.
type field struct {
	name string
	set  func(e *api.Event)
}

func fields() []field {
	return []field{
		{"Flag", func(e *api.Event) { e.Flag = true }},
		{"Num", func(e *api.Event) { e.Num = api.Num{Digits: "1"} }},
		{"Num", func(e *api.Event) { e.Num = api.Num{Digits: "0"} }},
		{"Num", func(e *api.Event) { e.Num = api.Num{Neg: true} }},
		{"Num", func(e *api.Event) { e.Num = api.Num{Exp: -1} }},
		{"Bits", func(e *api.Event) { e.Bits = 1 }},
		{"Bits", func(e *api.Event) { e.Bits = 1 << 63 }},
		{"Text", func(e *api.Event) { e.Text = "a" }},
		{"Text", func(e *api.Event) { e.Text = "\x00" }},
		{"Text", func(e *api.Event) { e.Text = "\xff" }},
	}
}

// isZero tells whether v is a struct of noughts.
func isZero(v api.Value) bool {
	return v.Kind == 0 && !v.Flag && v.Num == api.Num{} && v.Bits == 0 && v.Text == "" && len(v.Names) == 0 && len(v.List) == 0
}

// same holds two values against each other, apart from value.Equal.
func same(a, b api.Value) bool {
	if a.Kind != b.Kind || a.Flag != b.Flag || a.Num != b.Num || a.Bits != b.Bits || a.Text != b.Text || len(a.List) != len(b.List) || !slices.Equal(a.Names, b.Names) {
		return false
	}
	for i := range a.List {
		if !same(a.List[i], b.List[i]) {
			return false
		}
	}
	return true
}

// short tells a few events of l, for a message.
func short(l []api.Event) string {
	s := ""
	for i, e := range l {
		if i == 12 {
			return s + "and so on"
		}
		s += strconv.Itoa(int(e.Kind)) + " " + e.Text[:min(4, len(e.Text))] + ", "
	}
	return s
}

// The examples of the chapter's table.
func TestExamples(t *testing.T) {
	v := record("a b", one, list(null))
	want := row(evRecord, evName("a"), evOne, evName("b"), evList, evNull, evEnd, evEnd)
	if l, e := event.Flatten(v); !slices.Equal(l, want) || e != api.OK {
		t.Errorf("Flatten = %v, %d", l, e)
	}
	if w, e := event.Build(want); !same(w, v) || e != api.OK {
		t.Errorf("Build = %v, %d", w, e)
	}
	for i, x := range []struct {
		l    []api.Event
		want api.Errno
	}{
		{want[:7], api.ErrEventEnd},
		{row(want, evEnd), api.ErrEventForm},
		{nil, api.ErrEventEnd},
		{row(evEnd), api.ErrEventForm},
		{row(evRecord, evName("a"), evNull, evName("a")), api.ErrEventForm},
	} {
		if w, e := event.Build(x.l); e != x.want || !isZero(w) {
			t.Errorf("events %d: Build = %v, %d", i, w, e)
		}
	}
	c := event.New()
	if e := c.Feed(evTag("t")); e != api.OK || c.Open() != 1 {
		t.Errorf("Feed(tag) = %d, Open = %d", e, c.Open())
	}
	if e := c.Feed(evNull); e != api.OK || c.Done() {
		t.Errorf("Feed(null) = %d, Done = %v", e, c.Done())
	}
	if e := c.Feed(evEnd); e != api.OK || !c.Done() {
		t.Errorf("Feed(end) = %d, Done = %v", e, c.Done())
	}
	if e := c.Feed(evNull); e != api.ErrEventForm {
		t.Errorf("Feed(null) = %d", e)
	}
}
