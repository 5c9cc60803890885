package run_test

import (
	"fmt"
	"math"
	"math/rand"
	"slices"
	"strings"
	"testing"

	"calamus/api"
	"calamus/code"
	"calamus/event"
	"calamus/json"
	"calamus/lang"
	"calamus/run"
)

func step(op api.Op) api.Expr       { return api.Expr{Op: op} }
func get(name string) api.Expr      { return api.Expr{Op: api.OpGet, Name: name} }
func tag(name string) api.Expr      { return api.Expr{Op: api.OpTag, Name: name} }
func mapOf(e api.Expr) api.Expr     { return api.Expr{Op: api.OpMap, List: []api.Expr{e}} }
func pipe(l ...api.Expr) api.Expr   { return api.Expr{Op: api.OpPipe, List: l} }
func constant(v api.Value) api.Expr { return api.Expr{Op: api.OpConst, Value: v} }

// record, cases and recordOf take their names with a blank between.
func record(names string, l ...api.Expr) api.Expr {
	return api.Expr{Op: api.OpRecord, Names: strings.Fields(names), List: l}
}

func cases(names string, l ...api.Expr) api.Expr {
	return api.Expr{Op: api.OpCase, Names: strings.Fields(names), List: l}
}

func recordOf(names string, l ...api.Value) api.Value {
	return api.Value{Kind: api.KindRecord, Names: strings.Fields(names), List: l}
}

func flag(b bool) api.Value { return api.Value{Kind: api.KindBool, Flag: b} }

func number(digits string, exp int) api.Value {
	return api.Value{Kind: api.KindNum, Num: api.Num{Digits: digits, Exp: exp}}
}

func below(digits string, exp int) api.Value {
	return api.Value{Kind: api.KindNum, Num: api.Num{Neg: true, Digits: digits, Exp: exp}}
}

func float(bits uint64) api.Value { return api.Value{Kind: api.KindFloat, Bits: bits} }

func text(s string) api.Value { return api.Value{Kind: api.KindText, Text: s} }

func raw(s string) api.Value { return api.Value{Kind: api.KindBytes, Text: s} }

func list(l ...api.Value) api.Value { return api.Value{Kind: api.KindList, List: l} }

func tagged(name string, v api.Value) api.Value {
	return api.Value{Kind: api.KindTag, Text: name, List: []api.Value{v}}
}

var (
	null = api.Value{Kind: api.KindNull}

	id, toText, toNum, sum, count = step(api.OpId), step(api.OpToText), step(api.OpToNum), step(api.OpSum), step(api.OpCount)

	nines = strings.Repeat("9", 40)

	evNull, evList, evRecord, evEnd = api.Event{Kind: api.EvNull}, api.Event{Kind: api.EvList}, api.Event{Kind: api.EvRecord}, api.Event{Kind: api.EvEnd}
)

func evNum(digits string) api.Event { return api.Event{Kind: api.EvNum, Num: api.Num{Digits: digits}} }
func evText(s string) api.Event     { return api.Event{Kind: api.EvText, Text: s} }
func evName(s string) api.Event     { return api.Event{Kind: api.EvName, Text: s} }
func evTag(s string) api.Event      { return api.Event{Kind: api.EvTag, Text: s} }

// eventsOf are those of a value of whatever size.
func eventsOf(v api.Value) []api.Event {
	l := []api.Event{{Kind: api.EventKind(v.Kind), Flag: v.Flag, Num: v.Num, Bits: v.Bits, Text: v.Text}}
	if v.Kind < api.KindList {
		return l
	}
	for i, w := range v.List {
		if v.Kind == api.KindRecord {
			l = append(l, evName(v.Names[i]))
		}
		l = append(l, eventsOf(w)...)
	}
	return append(l, evEnd)
}

// mappingOf and valueOf are what stands in a text.
func mappingOf(t *testing.T, s string) api.Expr {
	t.Helper()
	x, e, at := lang.Parse(s)
	if e != api.OK {
		t.Fatalf("Parse(%s) = %d at %d", s, e, at)
	}
	return x
}

func valueOf(t *testing.T, s string) api.Value {
	t.Helper()
	v, e := json.Read([]byte(s))
	if e != api.OK {
		t.Fatalf("Read(%s) = %d", s, e)
	}
	return v
}

// machineOf does a mapping; its program streams or does not.
func machineOf(t *testing.T, e api.Expr) (m *run.Machine, streams bool) {
	t.Helper()
	l, bad := code.Compile(e)
	streams, _ = code.Streams(l)
	m, worse := run.New(l)
	if bad != api.OK || worse != api.OK || m == nil {
		t.Fatalf("P19.1: New(of %s) = %v, %d; Compile = %d", short(e), m, worse, bad)
	}
	return m, streams
}

// short is how x is told, or the two ends of that, so that a fault can be read.
func short(x any) string {
	s := fmt.Sprint(x)
	switch y := x.(type) {
	case api.Value:
		if b, e := json.Write(y); e == api.OK {
			s = string(b)
		}
	case api.Expr:
		if p, e := lang.Print(y); e == api.OK {
			s = p
		}
	case []api.Event:
		s = ""
		for _, e := range y {
			s += shortEvent(e) + " "
		}
	}
	if len(s) > 400 {
		return fmt.Sprintf("%s .. %s (%d bytes)", s[:300], s[len(s)-60:], len(s))
	}
	return s
}

// shortEvent tells an event by a mark of few letters.
func shortEvent(e api.Event) string {
	switch e {
	case evNull:
		return "null"
	case evList:
		return "["
	case evRecord:
		return "{"
	case evEnd:
		return "/"
	case evName(e.Text):
		return "." + e.Text
	case evTag(e.Text):
		return "<" + e.Text
	case evText(e.Text):
		return "\"" + e.Text
	case evNum(e.Num.Digits):
		return e.Num.Digits
	}
	return fmt.Sprint(e)
}

// cut is how many events come next, of those that are left: 0, if there are none.
type cut func(left int) int

func atOnce(left int) int    { return left }
func oneByOne(left int) int  { return min(1, left) }
func threeEach(left int) int { return min(3, left) }

// someParts are of few events each, some of none.
func someParts(r *rand.Rand) cut {
	return func(left int) int { return min(left, r.Intn(5)) }
}

// talk is what was fed to a machine, and what it told.
type talk struct {
	t       *testing.T
	e       api.Expr
	m       *run.Machine
	streams bool
	fed     []api.Event
	in, out *event.Checker // of what was fed, and of what was told
	told    []api.Event
	bad     api.Errno
}

func newTalk(t *testing.T, e api.Expr) *talk {
	t.Helper()
	m, streams := machineOf(t, e)
	x := &talk{t: t, e: e, m: m, streams: streams, in: event.New(), out: event.New()}
	x.wantState()
	return x
}

// feed goes on by one part, and asks for all that is promised of each Feed, whatever was fed.
func (x *talk) feed(part []api.Event) {
	mayBe := true
	for _, e := range part {
		mayBe = x.in.Feed(e) == api.OK && mayBe
	}
	x.fed = append(x.fed, part...)
	l, bad := x.m.Feed(part)
	if bad != api.OK && len(l) > 0 {
		x.t.Errorf("R1: %s, fed %s: %s beside %d", short(x.e), short(x.fed), short(l), bad)
	}
	switch {
	case x.bad != api.OK && bad != x.bad:
		x.t.Errorf("P19.2: %s, fed %s: %d, but %d ahead", short(x.e), short(x.fed), bad, x.bad)
	case x.bad == api.OK && !mayBe && bad != api.ErrEventForm:
		x.t.Errorf("P19.2: %s, fed %s: %d, want %d", short(x.e), short(x.fed), bad, api.ErrEventForm)
	case mayBe && x.bad == api.OK && bad != api.OK && bad != api.ErrLimit && bad != api.ErrEvalType && bad != api.ErrEvalCoerce:
		x.t.Errorf("P19.2: %s, fed %s: %d", short(x.e), short(x.fed), bad)
	case x.e.Op == api.OpId && bad == api.OK && !slices.Equal(l, part):
		x.t.Errorf("P19.4: %s, fed %s, tells %s", short(x.e), short(part), short(l))
	}
	for _, e := range l {
		if x.out.Feed(e) != api.OK {
			x.t.Errorf("P19.2: %s, fed %s, tells %s and %s, no value's", short(x.e), short(x.fed), short(x.told), short(l))
		}
	}
	x.told, x.bad = append(x.told, l...), bad
	x.wantState()
}

// wantState asks for what is promised at each moment of the machine.
func (x *talk) wantState() {
	whole := x.in.Done() && x.bad == api.OK
	if x.m.Done() != whole {
		x.t.Errorf("P19.3: %s, fed %s: Done = %v, error %d", short(x.e), short(x.fed), x.m.Done(), x.bad)
	}
	if n := x.m.Held(); n < 0 || whole && n > 0 || x.streams && n > 16 {
		x.t.Errorf("P19.4: %s, fed %s: Held = %d, Done = %v, streams: %v", short(x.e), short(x.fed), n, whole, x.streams)
	}
}

// talkOf feeds events in parts, and nothing, and more behind an error.
func talkOf(t *testing.T, e api.Expr, l []api.Event, next cut) *talk {
	t.Helper()
	x := newTalk(t, e)
	for left := l; len(left) > 0; {
		n := next(len(left))
		x.feed(left[:n])
		left = left[n:]
	}
	x.feed(nil)
	if x.bad != api.OK {
		x.feed([]api.Event{evNull, evEnd})
	}
	return x
}

// The examples of the chapter's table.
func TestExamples(t *testing.T) {
	x := newTalk(t, mappingOf(t, "[.a]"))
	x.feed([]api.Event{evList, evRecord, evName("a"), evNum("1")})
	if !slices.Equal(x.told, []api.Event{evList, evNum("1")}) || x.m.Done() {
		t.Errorf("P19.2: [.a] tells %s", short(x.told))
	}
	x.feed([]api.Event{evEnd, evEnd})
	if !slices.Equal(x.told, []api.Event{evList, evNum("1"), evEnd}) || !x.m.Done() || x.m.Held() != 0 {
		t.Errorf("P19.2: [.a] tells %s", short(x.told))
	}
	x = newTalk(t, sum)
	x.feed([]api.Event{evList, evNum("1")})
	if len(x.told) != 0 || x.bad != api.OK {
		t.Errorf("P19.2: sum tells %s, %d", short(x.told), x.bad)
	}
	x.feed([]api.Event{evNum("2"), evEnd})
	if !slices.Equal(x.told, []api.Event{evNum("3")}) {
		t.Errorf("P19.2: sum tells %s", short(x.told))
	}
	m, _ := machineOf(t, get("a"))
	for range 2 {
		if l, bad := m.Feed([]api.Event{evNull}); len(l) != 0 || bad != api.ErrEvalType || m.Done() {
			t.Errorf("P19.2: .a tells %s, %d", short(l), bad)
		}
	}
	m, _ = machineOf(t, id)
	if l, bad := m.Feed([]api.Event{evEnd}); len(l) != 0 || bad != api.ErrEventForm {
		t.Errorf("P19.2: id tells %s, %d", short(l), bad)
	}
}

// P19.1: New has code.Check's error, and else a machine to which nothing was fed.
func TestNew(t *testing.T) {
	many := slices.Repeat([]api.Node{{Op: api.OpId}}, 513)
	many[0].Op = api.OpPipe
	for i := range many[1:] {
		many[0].Kids = append(many[0].Kids, i+1)
	}
	for _, x := range []struct {
		l    []api.Node
		want api.Errno
	}{
		{nil, api.ErrCodeForm},
		{[]api.Node{}, api.ErrCodeForm},
		{[]api.Node{{}}, api.ErrCodeForm},
		{[]api.Node{{Op: 13}}, api.ErrCodeForm},
		{[]api.Node{{Op: math.MinInt}}, api.ErrCodeForm},
		{[]api.Node{{Op: api.OpId}, {Op: api.OpId}}, api.ErrCodeForm},
		{[]api.Node{{Op: api.OpMap, Kids: []int{0}}}, api.ErrCodeForm},
		{[]api.Node{{Op: api.OpMap, Kids: []int{1}}}, api.ErrCodeForm},
		{[]api.Node{{Op: api.OpMap, Kids: []int{-1}}, {Op: api.OpId}}, api.ErrCodeForm},
		{[]api.Node{{Op: api.OpId, Name: "a"}}, api.ErrCodeForm},
		{[]api.Node{{Op: api.OpGet, Name: "\xff"}}, api.ErrCodeForm},
		{[]api.Node{{Op: api.OpRecord, Names: []string{"a", "a"}, Kids: []int{1, 2}}, {Op: api.OpId}, {Op: api.OpId}}, api.ErrCodeForm},
		{[]api.Node{{Op: api.OpConst, Value: list()}}, api.ErrCodeForm},
		{[]api.Node{{Op: api.OpGet, Name: strings.Repeat("a", 65)}}, api.ErrLimit},
		{many, api.ErrLimit},
	} {
		if m, bad := run.New(x.l); m != nil || bad != x.want || code.Check(x.l) != x.want {
			t.Errorf("P19.1: New(%s) = %v, %d, want %d", short(x.l), m, bad, x.want)
		}
	}
	many[0].Kids = many[0].Kids[:511]
	if m, bad := run.New(many[:512]); m == nil || bad != api.OK {
		t.Errorf("P19.1: New(of 512 nodes) = %v, %d", m, bad)
	}
	for _, e := range smallExprs() {
		x := newTalk(t, e)
		x.feed(nil)
		x.feed([]api.Event{})
		if x.bad != api.OK || len(x.told) != 0 || x.m.Done() || x.m.Held() != 0 {
			t.Errorf("P19.1: a new machine of %s: %s, %d", short(e), short(x.told), x.bad)
		}
	}
}

// P19.1, R1: rows of nodes of all sorts.
func TestNewOfAnyRow(t *testing.T) {
	r := rand.New(rand.NewSource(191))
	told := map[api.Errno]int{}
	for range 20000 {
		l, bad := code.Compile(someExpr(r, 1+r.Intn(4)))
		if bad != api.OK {
			continue
		}
		switch i := r.Intn(len(l)); r.Intn(6) {
		case 0:
			l[i].Op = api.Op(r.Intn(15) - 1)
		case 1:
			l[i].Kids = append(l[i].Kids, r.Intn(len(l)+2)-1)
		case 2:
			l[i].Names = append(l[i].Names, "a")
		case 3:
			l[i].Name += []string{"a", "\xff", strings.Repeat("a", 65)}[r.Intn(3)]
		case 4:
			l = slices.Delete(l, i, i+1)
		}
		want := code.Check(l)
		m, bad := run.New(l)
		told[bad]++
		if bad != want || (m != nil) != (bad == api.OK) {
			t.Errorf("P19.1: New(%s) = %v, %d, want %d", short(l), m, bad, want)
		}
	}
	if told[api.OK] < 2000 || told[api.ErrCodeForm] < 2000 || told[api.ErrLimit] < 100 {
		t.Errorf("only %v answers", told)
	}
}

// R3: a call on no machine.
func TestNoMachine(t *testing.T) {
	for _, m := range []*run.Machine{nil, {}} {
		for _, l := range [][]api.Event{nil, {}, {evNull}, {evEnd}, {{Kind: 99}}} {
			if told, bad := m.Feed(l); len(told) != 0 || bad != api.ErrNil {
				t.Errorf("R3: Feed(%s) of no machine = %s, %d", short(l), short(told), bad)
			}
		}
		if m.Done() || m.Held() != 0 {
			t.Errorf("R3: no machine is Done: %v, holds %d", m.Done(), m.Held())
		}
	}
}
