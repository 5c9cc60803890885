package code_test

import (
	"math/rand"
	"testing"

	"calamus/api"
	"calamus/code"
	"calamus/eval"
	"calamus/json"
	"calamus/lang"
	"calamus/norm"
	"calamus/value"
)

// throughProgram is the mapping that comes back of e's program.
func throughProgram(t *testing.T, e api.Expr) api.Expr {
	t.Helper()
	l, bad := compiled(t, e)
	back, worse := code.Back(l)
	if bad != api.OK || worse != api.OK {
		t.Errorf("P18.5: %s: Compile = %d, Back = %d", short(e), bad, worse)
	}
	return back
}

// P18.5: Compile and Back undo each other, of all sorts of mappings and of programs.
func TestUndone(t *testing.T) {
	r := rand.New(rand.NewSource(185))
	for range 10000 {
		e := someExpr(r, 1+r.Intn(6))
		if lang.Check(e) != api.OK {
			continue
		}
		if back := throughProgram(t, e); !sameExpr(back, e) {
			t.Errorf("P18.5: %s comes back as %s", short(e), short(back))
		}
		l := programOf(e)
		back, bad := code.Back(l)
		again, worse := code.Compile(back)
		if bad != api.OK || worse != api.OK || !sameRow(again, l) {
			t.Errorf("P18.5: %s comes back as %s, %d, %d", short(l), short(again), bad, worse)
		}
	}
}

// P18.5: mappings that are not the same have programs that are not the same.
func TestToldApart(t *testing.T) {
	texts := []string{
		"id", "sum", ".a", ".b", "tag a", "{}", "case {}", "{a = id}", "{b = id}", "case {a = id}", "[id]", "[[id]]", "const null", "const 1", `const "1"`, "const true", "const false", "const \"\"",
		"id ; id", "id ; id ; id", "(id ; id) ; id", "id ; (id ; id)", "(id ; id) ; (id ; id)", "[id ; id]", "[id] ; id", "id ; [id]", "{a = id, b = sum}", "{b = id, a = sum}", "{a = sum, b = id}", "{a = id ; sum}", "{a = id} ; sum", "{a = {b = id}}", "{a = {}, b = id}", "{a = {b = id}, c = sum}", "{a = {b = id, c = sum}}", "case {a = {b = id, c = sum}}", "{a = case {b = id, c = sum}}",
	}
	for i, s := range texts {
		for k, u := range texts {
			a, _ := code.Compile(mappingOf(t, s))
			b, _ := code.Compile(mappingOf(t, u))
			if sameRow(a, b) != (i == k) {
				t.Errorf("P18.5: %s and %s: the same program: %v", s, u, sameRow(a, b))
			}
		}
	}
}

// T6: of each value a mapping's program makes the same as the mapping, and refuses the same; so does the program of the mapping made shorter, but for limits.
func TestMakesSame(t *testing.T) {
	for _, x := range []struct {
		mapping string
		docs    []string
	}{
		{"id", []string{`null`, `[1,{"a":"b"}]`}},
		{".a ; [sum]", []string{`{"a":[[1,2],[]]}`, `{"a":[[1,"2"]]}`, `{"b":[]}`, `null`}},
		{"{n = count, s = [tonum] ; sum}", []string{`["1",0.5]`, `[]`, `["x"]`, `1`}},
		{"case {a = tag x, b = const 0}", []string{`{"$tag":["a",null]}`, `{"$tag":["b",1]}`, `{"$tag":["c",1]}`}},
		{"id ; (id ; {a = totext, b = id ; .x}) ; .a", []string{`{"x":1}`, `1`, `null`}},
		{"[{k = .k, v = id}] ; [.k] ; [tonum ; tonum] ; sum", []string{`[{"k":1},{"k":"2"}]`, `[{}]`, `[]`}},
		{`{"" = const "q", "a b" = {}}`, []string{`1`, `{"$float":"0000000000000000"}`}},
	} {
		e := mappingOf(t, x.mapping)
		shorter, bad := norm.Norm(e)
		if bad != api.OK {
			t.Fatalf("Norm(%s) = %d", x.mapping, bad)
		}
		back, backShorter := throughProgram(t, e), throughProgram(t, shorter)
		for _, doc := range x.docs {
			v, bad := json.Read([]byte(doc))
			if bad != api.OK {
				t.Fatalf("Read(%s) = %d", doc, bad)
			}
			want, wantErr := eval.Run(e, v)
			if got, bad := eval.Run(back, v); bad != wantErr || !value.Equal(got, want) {
				t.Errorf("T6: %s of %s: %v, %d, want %v, %d", x.mapping, doc, got, bad, want, wantErr)
			}
			if got, bad := eval.Run(backShorter, v); (bad == api.OK) != (wantErr == api.OK) || !value.Equal(got, want) {
				t.Errorf("T6: %s, made shorter, of %s: %v, %d, want %v, %d", x.mapping, doc, got, bad, want, wantErr)
			}
		}
	}
}

// rowOf makes of any bytes a row of nodes that might be a program; of each node two bytes tell the Op and how many Kids there are, and where one's number is another than it should be.
func rowOf(b []byte, s string) []api.Node {
	var l []api.Node
	for ; len(b) > 1; b = b[2:] {
		n := api.Node{Op: api.Op(b[0] % 14)}
		next := len(l) + 1
		for i := range int(b[1] % 4) {
			n.Kids = append(n.Kids, next+i*int(b[1]>>2%8))
			if n.Op == api.OpRecord || n.Op == api.OpCase {
				n.Names = append(n.Names, s[min(i, len(s)):])
			}
		}
		if n.Op == api.OpGet || n.Op == api.OpTag || b[0] > 250 {
			n.Name = s
		}
		if n.Op == api.OpConst {
			n.Value = []api.Value{null, text(s), number("1", int(b[1])), flag(true)}[b[0]/14%4]
		}
		l = append(l, n)
	}
	return l
}

// P18.1 to P18.5 of whatever rows there are.
func FuzzRow(f *testing.F) {
	for _, s := range []string{"", "\x01\x00", "\x04\x01\x01\x00", "\x0c\x06\x02\x00\x04\x01\x0a\x00", "\x03\x06\x01\x00\x01\x00", "\x01\x00\x01\x00", "\x04\x01", "\x0c\x0a\x04\x01\x01\x00\x01\x00", "\x03\x0b\x03\x01\x01\x00\x01\x00\x07\x00"} {
		f.Add([]byte(s), "ab")
	}
	f.Fuzz(func(t *testing.T, b []byte, s string) {
		l := rowOf(b, s)
		ask(t, l)
		if len(l) > 0 && len(l) < 200 {
			isNewExpr(t, l)
		}
	})
}

// T7: the same of bytes of all sorts.
func TestAnyRows(t *testing.T) {
	r := rand.New(rand.NewSource(187))
	ops := []byte{1, 1, 2, 3, 3, 4, 4, 6, 7, 12, 12, 13, 0, 255}
	told := map[api.Errno]int{}
	for range 200000 {
		b := make([]byte, 2*r.Intn(9))
		for i := 0; i < len(b); i += 2 {
			b[i], b[i+1] = ops[r.Intn(len(ops))], byte(r.Intn(3)+4*(1+r.Intn(2)))
		}
		told[ask(t, rowOf(b, []string{"a", "ab", "", "\xff"}[r.Intn(4)]))]++
	}
	if told[api.OK] < 1000 || told[api.ErrCodeForm] < 50000 {
		t.Errorf("only %v answers", told)
	}
}
