package xml_test

import (
	"fmt"
	"math/rand"
	"strings"
	"testing"

	"calamus/api"
	"calamus/num"
	"calamus/xml"
)

// thereAndBack asks for v again from what is written of it.
func thereAndBack(t *testing.T, v api.Value) {
	t.Helper()
	b, e := xml.Write(v)
	if e != api.OK {
		t.Fatalf("P10.1: Write = %d", e)
	}
	if w, e := xml.Read(b); e != api.OK || !same(v, w) {
		t.Errorf("P10.4: %s is read as %v, %d", short(string(b)), w, e)
	}
}

// P10.4: what is written is read as the same value.
func TestThereAndBack(t *testing.T) {
	r := rand.New(rand.NewSource(107))
	for _, v := range scalars() {
		thereAndBack(t, v)
	}
	for range 5000 {
		thereAndBack(t, someValue(r, 7))
	}
	for _, n := range names() {
		for _, m := range names() {
			if n != m {
				thereAndBack(t, api.Value{Kind: api.KindRecord, Names: []string{n, m}, List: []api.Value{text(m), tag(n, null)}})
			}
		}
	}
	thereAndBack(t, filled(raw(strings.Repeat("\xfe", 4096)), 65536))
	thereAndBack(t, filled(text(strings.Repeat("\x1f", 4096)), 65536))
	thereAndBack(t, named(strings.Repeat("\x10", 64), tag(strings.Repeat("\"", 64), null)))
	for c := range 256 {
		thereAndBack(t, raw(string([]byte{byte(c), byte(255 - c)})))
	}
}

// P10.4: a document that is read, written again, is the one document of its value, and read as it; unlike values have unlike documents.
func TestOneDocument(t *testing.T) {
	r := rand.New(rand.NewSource(108))
	seen := map[string]api.Value{}
	for range 5000 {
		v := someValue(r, 4)
		s := loose(r, v)
		w, e := xml.Read([]byte(s))
		b, f := xml.Write(w)
		if e != api.OK || f != api.OK || string(b) != document(v) {
			t.Errorf("P10.4: %s, written again: %s, %d, %d", short(s), short(string(b)), e, f)
		}
		if other, known := seen[string(b)]; known && !same(other, v) {
			t.Errorf("P10.4: two values' document: %s", b)
		}
		seen[string(b)] = v
	}
}

// loose is a document of v in some other form: with blanks, characters by their numbers, numbers written otherwise.
func loose(r *rand.Rand, v api.Value) string {
	s := looseElement(r, v)
	return someBlanks(r) + s + someBlanks(r)
}

func someBlanks(r *rand.Rand) string {
	s := ""
	for range r.Intn(3) {
		s += " \t\n\r"[r.Intn(4):][:1]
	}
	return s
}

func looseElement(r *rand.Rand, v api.Value) string {
	within := someBlanks(r)
	for i, w := range v.List {
		s := loose(r, w)
		if v.Kind == api.KindRecord {
			s = someBlanks(r) + `<field name="` + looseText(r, v.Names[i]) + `">` + s + "</field>" + someBlanks(r)
		}
		within += s
	}
	switch v.Kind {
	case api.KindNum:
		return "<num>" + looseNumber(r, v.Num) + "</num>"
	case api.KindText:
		return "<text>" + looseText(r, v.Text) + "</text>"
	case api.KindList:
		return "<list>" + within + "</list>"
	case api.KindRecord:
		return "<record>" + within + "</record>"
	case api.KindTag:
		return `<tag name="` + looseText(r, v.Text) + `">` + within + "</tag>"
	}
	return document(v)
}

func looseText(r *rand.Rand, s string) string {
	out := ""
	for _, c := range s {
		switch k := r.Intn(6); {
		case k == 0:
			out += fmt.Sprintf("&#x%x;", c)
		case k == 1:
			out += fmt.Sprintf("&#x%0*X;", 1+r.Intn(6), c)
		case k < 4 && c == '>':
			out += ">"
		default:
			out += escaped(string(c))
		}
	}
	return out
}

func looseNumber(r *rand.Rand, n api.Num) string {
	sign := ""
	if n.Neg || n.Digits == "0" && r.Intn(2) == 0 {
		sign = "-"
	}
	switch r.Intn(4) {
	case 0:
		return sign + fmt.Sprintf("%se%d", n.Digits, n.Exp)
	case 1:
		return sign + fmt.Sprintf("%s.%sE%+05d", n.Digits[:1], n.Digits[1:]+"00", n.Exp+len(n.Digits)-1)
	case 2:
		return sign + fmt.Sprintf("0.%se%d", n.Digits, n.Exp+len(n.Digits))
	}
	s, _ := num.Print(n)
	return s
}

// P10.2 to P10.4 of whatever bytes there are.
func FuzzRead(f *testing.F) {
	for _, s := range append(shortDocuments(), longDocuments()...) {
		f.Add([]byte(s), uint8(3))
	}
	f.Fuzz(func(t *testing.T, b []byte, size uint8) {
		s := string(b)
		e := ask(t, s)
		v, _ := xml.Read(b)
		askParts(t, s, v, e, []int{1 + int(size), 1})
		if e == api.OK {
			if w, f := xml.Write(v); f == api.OK && string(w) != document(v) {
				t.Errorf("P10.4: %s, written again: %s", s, w)
			}
		}
	})
}
