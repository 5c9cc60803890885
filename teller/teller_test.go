package teller

import (
	"reflect"
	"slices"
	"strings"
	"testing"

	"calamus/api"
)

const wrong = api.ErrPack

var (
	evNull = api.Event{Kind: api.EvNull}
	evList = api.Event{Kind: api.EvList}
	evEnd  = api.Event{Kind: api.EvEnd}
)

// letters is a reader of a format for tests: `[` and `]` are a list, `n` is null, `t` a text that is none, `1` and `2` are the numbers 1 and 1e401, `3` is no number, `p` passes a limit, `.` means nothing, all else is wrong.
type letters struct {
	out *Teller
}

func newLetters() letters { return letters{out: New(wrong)} }

func (r letters) take(c byte) {
	switch c {
	case '[':
		r.out.Tell(evList)
	case ']':
		r.out.Tell(evEnd)
	case 'n':
		r.out.Tell(evNull)
	case 't':
		r.out.Tell(api.Event{Kind: api.EvText, Text: "\xff"})
	case '1':
		r.out.TellNumber("1")
	case '2':
		r.out.TellNumber("1e401")
	case '3':
		r.out.TellNumber("1e")
	case 'p':
		r.out.Pass()
	case '.':
	default:
		panic(wrong)
	}
}

func (r letters) finish() {
	if !r.out.checker.Done() {
		panic(wrong)
	}
}

func (r letters) Feed(b []byte) ([]api.Event, api.Errno) { return r.out.Feed(b, r.take) }

func (r letters) End() ([]api.Event, api.Errno) { return r.out.End(r.finish) }

// wantCall asks for what a call answered.
func wantCall(t *testing.T, what string, l []api.Event, e api.Errno, want api.Errno, told ...api.Event) {
	t.Helper()
	if e != want || !slices.Equal(l, told) {
		t.Errorf("%s = %v, %d, want %v, %d", what, l, e, told, want)
	}
}

// Events are told by the call whose bytes tell them, once; behind the end comes an error for good.
func TestTold(t *testing.T) {
	r := newLetters()
	l, e := r.Feed([]byte("[n.1"))
	wantCall(t, "Feed([n.1)", l, e, api.OK, evList, evNull, api.Event{Kind: api.EvNum, Num: api.Num{Digits: "1"}})
	l, e = r.Feed(nil)
	wantCall(t, "Feed()", l, e, api.OK)
	l, e = r.Feed([]byte("[]]"))
	wantCall(t, "Feed([]])", l, e, api.OK, evList, evEnd, evEnd)
	for want := api.OK; want <= wrong; want += wrong {
		l, e = r.End()
		wantCall(t, "End", l, e, want)
	}
	l, e = r.Feed([]byte("n"))
	wantCall(t, "Feed behind End", l, e, wrong)
}

// What tells no value is refused: what take gives up by, and events that no value has.
func TestWrong(t *testing.T) {
	for _, s := range []string{"x", "[x", "t", "[nt", "]", "nn", "[]n", "px", "[pt", "3", "[23", "11", "22", "12", "21", "n2"} {
		r := newLetters()
		l, e := r.Feed([]byte(s))
		wantCall(t, s, l, e, wrong)
		l, e = r.Feed([]byte("n"))
		wantCall(t, s+", then Feed", l, e, wrong)
		l, e = r.End()
		wantCall(t, s+", then End", l, e, wrong)
	}
	for _, s := range []string{"", "[", "[n", "p", "[p"} {
		r := newLetters()
		r.Feed([]byte(s))
		l, e := r.End()
		wantCall(t, s+" and End", l, e, wrong)
	}
}

// A limit that is passed is told at the seventeenth byte, or at the end, if nothing is wrong up to there; from it on nothing is told.
func TestFewBytes(t *testing.T) {
	for n := range 30 {
		r := newLetters()
		l, e := r.Feed([]byte("[" + strings.Repeat(".", n)))
		wantCall(t, "Feed", l, e, api.OK, evList)
		l, e = r.Feed([]byte("p"))
		if 2+n > 16 {
			wantCall(t, "Feed(p)", l, e, api.ErrLimit)
			continue
		}
		wantCall(t, "Feed(p)", l, e, api.OK)
		for k := 2 + n; k < 16; k++ {
			l, e = r.Feed([]byte("n"))
			wantCall(t, "Feed(n) behind p", l, e, api.OK)
		}
		l, e = r.Feed([]byte("]"))
		wantCall(t, "Feed(]), the seventeenth", l, e, api.ErrLimit)
	}
	for s, want := range map[string]api.Errno{"[p]": api.ErrLimit, "2": api.ErrLimit, "[12]": api.ErrLimit, "[2": wrong, "[2n]]": wrong, "[pn": wrong, "[pnx": wrong, "[p.............]": api.ErrLimit, "[p.............x": wrong, "[p..............]": api.ErrLimit, "[p..............x": api.ErrLimit} {
		v, e := Read(newLetters(), []byte(s))
		if e != want || !reflect.DeepEqual(v, api.Value{}) {
			t.Errorf("Read(%s) = %v, %d, want %d", s, v, e, want)
		}
	}
}

// Events beyond the limits of values are not told, and refused.
func TestLimits(t *testing.T) {
	r := newLetters()
	for range 16 {
		r.Feed([]byte("["))
	}
	l, e := r.Feed([]byte("["))
	wantCall(t, "the seventeenth list", l, e, api.ErrLimit)
	for n, want := range map[int]api.Errno{256: api.OK, 257: api.ErrLimit} {
		if _, e := Read(newLetters(), []byte("["+strings.Repeat("n", n)+"]")); e != want {
			t.Errorf("a list of %d: %d", n, e)
		}
	}
}

// A document has at most 65536 bytes, whatever parts they come in.
func TestLong(t *testing.T) {
	for n, want := range map[int]api.Errno{65534: api.OK, 65535: api.OK, 65536: api.ErrLimit, 70000: api.ErrLimit} {
		s := strings.Repeat(".", n) + "n"
		if _, e := Read(newLetters(), []byte(s)); e != want {
			t.Errorf("Read of %d bytes = %d", n+1, e)
		}
		r := newLetters()
		e := api.OK
		for at := 0; at < len(s) && e == api.OK; at += 1000 {
			_, e = r.Feed([]byte(s[at:min(at+1000, len(s))]))
		}
		if e == api.OK {
			_, e = r.End()
		}
		if e != want {
			t.Errorf("%d bytes in parts: %d", n+1, e)
		}
	}
}

func TestRead(t *testing.T) {
	v, e := Read(newLetters(), []byte("[n[]]"))
	want := api.Value{Kind: api.KindList, List: []api.Value{{Kind: api.KindNull}, {Kind: api.KindList}}}
	if e != api.OK || !reflect.DeepEqual(v, want) {
		t.Errorf("Read = %v, %d", v, e)
	}
	for s, want := range map[string]api.Errno{"": wrong, "[": wrong, "x": wrong, "n": api.OK, "1": api.OK, strings.Repeat("[", 17) + strings.Repeat("]", 17): api.ErrLimit} {
		if _, e := Read(newLetters(), []byte(s)); e != want {
			t.Errorf("Read(%s) = %d", s, e)
		}
	}
}

// A teller keeps no events that were told, and nothing but its answer once it has ended.
func TestKept(t *testing.T) {
	for s, want := range map[string]api.Errno{"[n]": wrong, "[nx": wrong, "[n": wrong, "[p]": api.ErrLimit} {
		r := newLetters()
		r.Feed([]byte(s[:2]))
		if r.out.told != nil {
			t.Errorf("kept: %v", r.out.told)
		}
		r.Feed([]byte(s[2:]))
		r.End()
		if !reflect.DeepEqual(*r.out, Teller{ended: want}) {
			t.Errorf("behind %s: %+v", s, *r.out)
		}
	}
}

// No teller calls nothing.
func TestNoTeller(t *testing.T) {
	var none *Teller
	l, e := none.Feed([]byte("n"), func(byte) { t.Error("take is called") })
	wantCall(t, "Feed of none", l, e, api.ErrNil)
	l, e = none.End(func() { t.Error("finish is called") })
	wantCall(t, "End of none", l, e, api.ErrNil)
}
