package json_test

import (
	"math/rand"
	"slices"
	"strings"
	"testing"

	"calamus/api"
	"calamus/event"
	"calamus/json"
)

// shortDocuments are documents, and what is none, of at most 14 bytes.
func shortDocuments() []string {
	l := []string{
		`[nul]`, `[null,-1.5e1]`, `{"a":1,"b":2}`, `{"a":1,"a":2}`, `[[],{},"",[1]]`, `"\u00e9\""`, `"\ud83d\ude00"`, "\"\U0001f600\u00e9\"", `{"$$a":[1]}`, `{"$a":[1]}`, `{"$tag":[]}`, ` [ 1 , 2 ] `, ` 1 `, ` `, ``, `1e999`, `[1e999,x]`, `[1e999,1]`, `{"":1e9999}`, `1 2`, `true false`, "\"\xc3\xa9\"", "\"\xc3\"", `"a`, `[1`, `{"a":`, `-`, `[1]]`, `{"$bytes":""}`, `{"":1e999,"":1}`,
	}
	return slices.DeleteFunc(l, func(s string) bool { return len(s) > 14 })
}

// P7.3 of all cuttings into parts.
func TestAllCuttings(t *testing.T) {
	for _, s := range shortDocuments() {
		v, e := json.Read([]byte(s))
		for bits := range 1 << max(len(s)-1, 0) {
			askParts(t, s, v, e, cuts(len(s), bits))
		}
	}
}

// longDocuments are documents of all kinds, and the same with a fault.
func longDocuments() []string {
	l := []string{
		`{"$tag":["a b",{"$float":"0123456789abcdef"}]}`, `{"$bytes":"00112233ff","x":1}`, `[{"$$tag":{"$tag":["",null]}},{"$$":1,"$":2}]`, ` { "a" : [ true , false , null ] , "b" : { "c" : "\ud83d\ude00\n` + "\U0001f600" + `" } } `,
		`["\ud83d\ude00","\ud83d"]`, `{"a":1,"b":{"a":2,"b":3,"a":4}}`, `[1,22,-3.3e33,4e444]`, `[1,22,-3.3e33,4e4x]`,
	}
	for _, x := range over() {
		if len(x.over) < 400 {
			l = append(l, x.just, x.over, "["+x.over+",]")
		}
	}
	return l
}

// P7.3 of longer ones: each place to cut at, and each size of parts.
func TestEachCut(t *testing.T) {
	for _, s := range longDocuments() {
		v, e := json.Read([]byte(s))
		for at := 1; at < len(s); at++ {
			askParts(t, s, v, e, []int{at, len(s)})
			askParts(t, s, v, e, []int{at})
		}
	}
}

// P7.3 of some values' documents, in some parts.
func TestSomeParts(t *testing.T) {
	r := rand.New(rand.NewSource(73))
	for range 2000 {
		v := someValue(r, 6)
		var sizes []int
		for range 1 + r.Intn(5) {
			sizes = append(sizes, 1+r.Intn(20))
		}
		askParts(t, document(v), v, api.OK, sizes)
	}
}

// P7.3: empty parts change nothing, wherever they come.
func TestEmptyParts(t *testing.T) {
	for _, s := range append(shortDocuments(), longDocuments()...) {
		_, want := json.Read([]byte(s))
		r := json.New()
		var all []api.Event
		got := api.OK
		feed := func(b []byte) {
			l, e := r.Feed(b)
			all = append(all, l...)
			got = max(got, e)
		}
		for i := range len(s) {
			feed(nil)
			feed([]byte{})
			feed([]byte{s[i]})
			feed([]byte(s[i:])[:0])
		}
		l, e := r.End()
		all = append(all, l...)
		if got = max(got, e); got != want {
			t.Errorf("P7.3: %s with empty parts: %d, want %d", short(s), got, want)
		}
		if whole, _ := readParts(t, s, []int{1}); !slices.Equal(all, whole) {
			t.Errorf("P7.3: %s with empty parts: %v, want %v", short(s), all, whole)
		}
	}
}

// P7.3: what was told at any time begins a value, also where nothing is refused yet.
func TestToldSoFar(t *testing.T) {
	r := rand.New(rand.NewSource(74))
	docs := append(shortDocuments(), longDocuments()...)
	for range 300 {
		docs = append(docs, document(someValue(r, 6)))
	}
	for _, s := range docs {
		reader := json.New()
		var all []api.Event
		for i := range len(s) {
			l, e := reader.Feed([]byte{s[i]})
			if e != api.OK {
				break
			}
			if all = append(all, l...); len(l) == 0 {
				continue
			}
			if _, f := event.Build(all); f != api.OK && f != api.ErrEventEnd {
				t.Errorf("P7.3: %s: what was told up to byte %d begins no value: %d", short(s), i, f)
			}
		}
	}
}

// P7.3: a reader that has ended well takes nothing more, not even nothing; one that was refused says the same for good.
func TestEnded(t *testing.T) {
	for s, want := range map[string]api.Errno{`1`: api.ErrJson, `[]`: api.ErrJson, ``: api.ErrJson, `[`: api.ErrJson, `1e999`: api.ErrLimit, `[1,]`: api.ErrJson, strings.Repeat("[", 17): api.ErrLimit} {
		for _, first := range []func(r *json.Reader) ([]api.Event, api.Errno){
			func(r *json.Reader) ([]api.Event, api.Errno) { return r.Feed(nil) },
			func(r *json.Reader) ([]api.Event, api.Errno) { return r.Feed([]byte(" ")) },
			func(r *json.Reader) ([]api.Event, api.Errno) { return r.Feed([]byte("1")) },
			(*json.Reader).End,
		} {
			r := json.New()
			r.Feed([]byte(s))
			r.End()
			for range 3 {
				if l, e := first(r); e != want || len(l) > 0 {
					t.Errorf("P7.3: %s, then End, then a call = %v, %d, want %d", short(s), l, e, want)
				}
			}
			askRefused(t, r, nil, want)
		}
	}
}

// P7.3: the events may come with the bytes, and none comes twice.
func TestToldOnce(t *testing.T) {
	r := json.New()
	var all []api.Event
	for _, s := range []string{`[1`, `,{"a"`, `:"x"}`, `]`, ` `} {
		l, e := r.Feed([]byte(s))
		if e != api.OK {
			t.Fatalf("P7.3: Feed(%s) = %d", s, e)
		}
		all = append(all, l...)
	}
	l, e := r.End()
	all = append(all, l...)
	want, _ := event.Flatten(list(whole("1"), record("a", text("x"))))
	if e != api.OK || !slices.Equal(all, want) {
		t.Errorf("P7.3: %v, %d", all, e)
	}
}

// R3: no reader at all.
func TestNoReader(t *testing.T) {
	var none *json.Reader
	for _, b := range [][]byte{nil, {}, []byte("1"), []byte("x"), []byte(strings.Repeat(" ", 70000))} {
		if l, e := none.Feed(b); e != api.ErrNil || len(l) > 0 {
			t.Errorf("R3: Feed of none = %v, %d", l, e)
		}
		if l, e := none.End(); e != api.ErrNil || len(l) > 0 {
			t.Errorf("R3: End of none = %v, %d", l, e)
		}
	}
	if json.New() == nil {
		t.Error("P7.3: New is none")
	}
}
