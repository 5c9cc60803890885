package pack_test

import (
	"math/rand"
	"strings"
	"testing"

	"calamus/api"
	"calamus/pack"
)

// thereAndBack asks for v again from what is written of it.
func thereAndBack(t *testing.T, v api.Value) {
	t.Helper()
	b, e := pack.Write(v)
	if e != api.OK {
		t.Fatalf("P9.1: Write = %d", e)
	}
	if w, e := pack.Read(b); e != api.OK || !same(v, w) {
		t.Errorf("P9.4: %s is read as %v, %d", short(string(b)), w, e)
	}
}

// P9.4: what is written is read as the same value.
func TestThereAndBack(t *testing.T) {
	r := rand.New(rand.NewSource(97))
	for _, v := range scalars() {
		thereAndBack(t, v)
	}
	for range 5000 {
		thereAndBack(t, someValue(r, 7))
	}
	for _, n := range names() {
		for _, m := range names() {
			if n != m {
				thereAndBack(t, api.Value{Kind: api.KindRecord, Names: []string{n, m}, List: []api.Value{text(m), tag(n, null)}})
			}
		}
	}
	thereAndBack(t, filled(raw(strings.Repeat("\xfe", 4096)), 65536))
	thereAndBack(t, filled(whole("18446744073709551616"), 65536))
	thereAndBack(t, record(strings.Repeat("a", 64), tag(strings.Repeat("$", 64), null)))
	for c := range 256 {
		thereAndBack(t, raw(string([]byte{byte(c), byte(255 - c)})))
	}
}

// P9.4: a document that is read, written again, is the one document of its value, and read as it; unlike values have unlike documents.
func TestOneDocument(t *testing.T) {
	r := rand.New(rand.NewSource(98))
	seen := map[string]api.Value{}
	for range 5000 {
		v := someValue(r, 4)
		s := loose(r, v)
		w, e := pack.Read([]byte(s))
		b, f := pack.Write(w)
		if e != api.OK || f != api.OK || string(b) != document(v) {
			t.Errorf("P9.4: %s, written again: %s, %d, %d", short(s), short(string(b)), e, f)
		}
		if other, known := seen[string(b)]; known && !same(other, v) {
			t.Errorf("P9.4: two values' document: % x", b)
		}
		seen[string(b)] = v
	}
}

// P9.2 to P9.4 of whatever bytes there are.
func FuzzRead(f *testing.F) {
	for _, s := range append(shortDocuments(), longDocuments()...) {
		f.Add([]byte(s), uint8(3))
	}
	f.Fuzz(func(t *testing.T, b []byte, size uint8) {
		s := string(b)
		e := ask(t, s)
		v, _ := pack.Read(b)
		askParts(t, s, v, e, []int{1 + int(size), 1})
		if e == api.OK {
			if w, f := pack.Write(v); f == api.OK && string(w) != document(v) {
				t.Errorf("P9.4: % x, written again: % x", s, w)
			}
		}
	})
}
