package json_test

import (
	"fmt"
	"math/rand"
	"strings"
	"testing"

	"calamus/api"
	"calamus/json"
)

// thereAndBack asks for v again from what is written of it.
func thereAndBack(t *testing.T, v api.Value) {
	t.Helper()
	b, e := json.Write(v)
	if e != api.OK {
		t.Fatalf("P7.1: Write = %d", e)
	}
	if w, e := json.Read(b); e != api.OK || !same(v, w) {
		t.Errorf("P7.4: %s is read as %v, %d", short(string(b)), w, e)
	}
}

// P7.4: what is written is read as the same value.
func TestThereAndBack(t *testing.T) {
	r := rand.New(rand.NewSource(75))
	for _, v := range scalars() {
		thereAndBack(t, v)
	}
	for range 5000 {
		thereAndBack(t, someValue(r, 7))
	}
	for _, n := range names() {
		for _, m := range names() {
			if n != m {
				thereAndBack(t, api.Value{Kind: api.KindRecord, Names: []string{n, m}, List: []api.Value{text(m), tag(n, null)}})
			}
		}
	}
	thereAndBack(t, filled(raw(strings.Repeat("\xfe", 4096)), 65536))
	thereAndBack(t, filled(text(strings.Repeat("\x1f", 4096)), 65536))
	thereAndBack(t, record("$"+strings.Repeat("a", 63), tag(strings.Repeat("$", 64), null)))
	for c := range 256 {
		thereAndBack(t, raw(string([]byte{byte(c), byte(255 - c)})))
	}
}

// P7.4: a document that is read, written again, is the one document of its value, and read as it; unlike values have unlike documents.
func TestOneDocument(t *testing.T) {
	r := rand.New(rand.NewSource(76))
	seen := map[string]api.Value{}
	for range 5000 {
		v := someValue(r, 4)
		s := loose(r, document(v))
		w, e := json.Read([]byte(s))
		b, f := json.Write(w)
		if e != api.OK || f != api.OK || string(b) != document(v) {
			t.Errorf("P7.4: %s, written again: %s, %d, %d", short(s), short(string(b)), e, f)
		}
		if other, known := seen[string(b)]; known && !same(other, v) {
			t.Errorf("P7.4: two values' document: %s", b)
		}
		seen[string(b)] = v
	}
}

// loose writes a document otherwise: with blanks, and characters as numbers.
func loose(r *rand.Rand, s string) string {
	var out strings.Builder
	blank := func() {
		for range r.Intn(3) {
			out.WriteByte(" \t\n\r"[r.Intn(4)])
		}
	}
	blank()
	quoted := false
	for i := 0; i < len(s); i++ {
		c := s[i]
		switch {
		case quoted && c == '\\' && s[i+1] == 'u':
			out.WriteString(`\u` + strings.ToUpper(s[i+2:i+6]))
			i += 5
		case quoted && c == '\\':
			out.WriteString(s[i : i+2])
			i++
		case c == '"':
			quoted = !quoted
			out.WriteByte(c)
		case quoted && c < 128 && r.Intn(4) == 0:
			fmt.Fprintf(&out, []string{`\u%04x`, `\u%04X`}[r.Intn(2)], c)
		case !quoted && strings.IndexByte("[]{},:", c) >= 0:
			blank()
			out.WriteByte(c)
			blank()
		default:
			out.WriteByte(c)
		}
	}
	blank()
	return out.String()
}

// P7.2 to P7.4 of whatever bytes there are.
func FuzzRead(f *testing.F) {
	for _, s := range append(shortDocuments(), longDocuments()...) {
		f.Add([]byte(s), uint8(3))
	}
	f.Fuzz(func(t *testing.T, b []byte, size uint8) {
		s := string(b)
		e := ask(t, s)
		v, _ := json.Read(b)
		askParts(t, s, v, e, []int{1 + int(size), 1})
		if e == api.OK {
			if w, f := json.Write(v); f == api.OK && string(w) != document(v) {
				t.Errorf("P7.4: %s, written again: %s", s, w)
			}
		}
	})
}
