package xml_test

import (
	"slices"
	"testing"

	"calamus/api"
	"calamus/event"
	"calamus/xml"
)

// ask asks Read for what is reckoned apart, and the reader for the same in some parts; it answers what Read told.
func ask(t *testing.T, s string) api.Errno {
	t.Helper()
	v, e := xml.Read([]byte(s))
	x := reckon([]byte(s))
	switch {
	case !x.document:
		if !mayRefuse(s, e) || !isZero(v) {
			t.Errorf("P10.2: Read(%s) = Kind %d, %d: it is no document", short(s), v.Kind, e)
		}
	case x.limit:
		if e != api.ErrLimit || !isZero(v) {
			t.Errorf("P10.2: Read(%s) = Kind %d, %d: it passes a limit", short(s), v.Kind, e)
		}
	case e != api.OK || !same(v, x.value):
		t.Errorf("P10.2: Read(%s) = %v, %d, want %v", short(s), v, e, x.value)
	}
	askParts(t, s, v, e, []int{len(s)})
	askParts(t, s, v, e, []int{1})
	return e
}

// mayRefuse tells whether e may be the answer for what is no document.
func mayRefuse(s string, e api.Errno) bool {
	return e == api.ErrXml || e == api.ErrLimit && len(s) > 16
}

// askParts asks the reader for v's events or the error e, as Read told, of parts of these sizes, again and again.
func askParts(t *testing.T, s string, v api.Value, e api.Errno, sizes []int) {
	t.Helper()
	l, got := readParts(t, s, sizes)
	if got != e {
		t.Errorf("P10.3: %s in parts of %v: %d, Read answers %d", short(s), sizes, got, e)
		return
	}
	if e != api.OK {
		if _, f := event.Build(l); f != api.OK && f != api.ErrEventEnd {
			t.Errorf("P10.3: %s in parts of %v: what was told begins no value within the limits: %d", short(s), sizes, f)
		}
		return
	}
	want, f := event.Flatten(v)
	if f != api.OK || !slices.Equal(l, want) {
		t.Errorf("P10.3: %s in parts of %v: %v, want %v", short(s), sizes, l, want)
	}
}

// readParts feeds s and ends; it answers the events in all, and the error.
func readParts(t *testing.T, s string, sizes []int) ([]api.Event, api.Errno) {
	t.Helper()
	r := xml.New()
	var all []api.Event
	for i := 0; len(s) > 0; i++ {
		n := min(sizes[i%len(sizes)], len(s))
		l, e := r.Feed([]byte(s[:n]))
		s = s[n:]
		if e != api.OK {
			askRefused(t, r, l, e)
			return all, e
		}
		all = append(all, l...)
	}
	l, e := r.End()
	if e != api.OK {
		askRefused(t, r, l, e)
		return all, e
	}
	all = append(all, l...)
	askRefused(t, r, nil, api.ErrXml)
	return all, api.OK
}

// askRefused asks for the error e from each further call, and no events from them and beside the first one.
func askRefused(t *testing.T, r *xml.Reader, l []api.Event, e api.Errno) {
	t.Helper()
	if len(l) > 0 {
		t.Errorf("P10.3: events beside the error %d: %v", e, l)
	}
	for _, s := range []string{"", " ", "<", "<null/>", ">", "\xff", "</list>"} {
		if l, got := r.Feed([]byte(s)); got != e || len(l) > 0 {
			t.Errorf("P10.3: Feed(%q) behind the error %d = %v, %d", s, e, l, got)
		}
		if l, got := r.End(); got != e || len(l) > 0 {
			t.Errorf("P10.3: End behind the error %d = %v, %d", e, l, got)
		}
	}
}

// cuts are the sizes of the parts of n bytes, cut behind each place whose bit is in bits.
func cuts(n, bits int) []int {
	var sizes []int
	from := 0
	for at := 1; at < n; at++ {
		if bits>>(at-1)&1 == 1 {
			sizes = append(sizes, at-from)
			from = at
		}
	}
	return append(sizes, max(n-from, 1))
}
