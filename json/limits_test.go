package json_test

import (
	"fmt"
	"strings"
	"testing"

	"calamus/api"
)

// over are documents that just meet a limit, and pass it.
func over() []struct{ just, over string } {
	times := strings.Repeat
	around := func(n int, begin, within, end string) string { return times(begin, n) + within + times(end, n) }
	nulls := func(n int) string { return strings.TrimSuffix(times("null,", n), ",") }
	wide := func(n int) string {
		var l []string
		for i := range n {
			l = append(l, fmt.Sprintf(`"n%d":[]`, i))
		}
		return "{" + strings.Join(l, ",") + "}"
	}
	sized := func(n int) string { // a list with n values in it, itself too
		var l []string
		for n--; n > 257; n -= 257 {
			l = append(l, "["+nulls(256)+"]")
		}
		if n > 200 {
			l, n = append(l, "["+nulls(99)+"]"), n-100
		}
		return "[" + strings.Join(append(l, nulls(n)), ",") + "]"
	}
	return []struct{ just, over string }{
		{`"` + times("a", 4096) + `"`, `"` + times("a", 4097) + `"`},
		{`"` + times("\u00e9", 2048) + `"`, `"` + times("\u00e9", 2048) + `a"`},
		{`"` + times(`\n`, 4096) + `"`, `"` + times(`\n`, 4097) + `"`},
		{`"` + times(`\u00e9`, 2048) + `"`, `"` + times(`\u00e9`, 2049) + `"`},
		{`"` + times(`\ud83d\ude00`, 1024) + `"`, `"` + times(`\ud83d\ude00`, 1024) + `a"`},
		{`"` + times("a", 4096) + `"`, `"` + times("a", 8192) + `"`},
		{`"` + times("a", 4096) + `"`, `"` + times("a", 8193) + `"`},
		{`"` + times("a", 4096) + `"`, `"` + times("a", 40000) + `"`},
		{`{"$bytes":"` + times("a0", 4096) + `"}`, `{"$bytes":"` + times("a0", 4097) + `"}`},
		{`{"$bytes":"` + times(`\u0061`, 8192) + `"}`, `{"$bytes":"` + times(`\u0061`, 8194) + `"}`},
		{`{"` + times("a", 64) + `":1}`, `{"` + times("a", 65) + `":1}`},
		{`{"b":1,"` + times("a", 64) + `":1}`, `{"b":1,"` + times("a", 65) + `":1}`},
		{`{"b":1,"` + times("$", 64) + `":1}`, `{"b":1,"` + times("$", 65) + `":1}`},
		{`{"$$` + times("a", 63) + `":1}`, `{"$$` + times("a", 64) + `":1}`},
		{`{"` + times("$", 65) + `":1}`, `{"` + times("$", 66) + `":1}`},
		{`{"` + times(`\u00e9`, 32) + `":1}`, `{"` + times(`\u00e9`, 33) + `":1}`},
		{`{"$tag":["` + times("a", 64) + `",1]}`, `{"$tag":["` + times("a", 65) + `",1]}`},
		{`{"$tag":["` + times("$", 64) + `",1]}`, `{"$tag":["` + times("a", 5000) + `",1]}`},
		{"[" + nulls(256) + "]", "[" + nulls(257) + "]"},
		{wide(256), wide(257)},
		{sized(4096), sized(4097)},
		{sized(4095), "[" + sized(4096) + "]"},
		{sized(4094), `{"a":` + sized(4096) + `}`},
		{around(16, "[", "", "]"), around(17, "[", "", "]")},
		{around(15, "[", "1", "]"), around(16, "[", "1", "]")},
		{around(15, "[", `{"$float":"0000000000000000"}`, "]"), around(16, "[", `{"$float":"0000000000000000"}`, "]")},
		{around(15, "[", `{"$bytes":""}`, "]"), around(16, "[", `{"$bytes":""}`, "]")},
		{around(15, `{"a":`, "{}", "}"), around(16, `{"a":`, "{}", "}")},
		{around(15, `{"a":`, "1", "}"), around(16, `{"a":`, "1", "}")},
		{around(15, `{"$tag":["t",`, "1", "]}"), around(16, `{"$tag":["t",`, "1", "]}")},
		{around(15, `{"$tag":["t",`, "[]", "]}"), around(40, `{"$tag":["t",`, "[]", "]}")},
		{around(5, `[{"$$":{"$tag":["t",`, "{}", "]}}]"), around(5, `[{"$$":{"$tag":["t",`, "[1]", "]}}]")},
		{around(16, "[", "", "]"), around(9000, "[", "", "]")},
		{"1" + times("3", 39), "1" + times("3", 40)},
		{"-1" + times("3", 39) + times("0", 400), "-1" + times("3", 39) + times("0", 401)},
		{"0." + times("3", 40), "0." + times("3", 41)},
		{"1e400", "1e401"}, {"1e-400", "1e-401"}, {"1e" + times("0", 600)[:509] + "1", "1e" + times("0", 510) + "1"},
		{"1." + times("0", 510), "1." + times("0", 511)}, {"1." + times("0", 510), "1." + times("0", 30000)}, {"0e" + times("9", 510), "0e" + times("9", 511)},
	}
}

// P7.2: each limit, just met and just passed, alone and within others.
func TestReadLimits(t *testing.T) {
	for _, x := range over() {
		wantError(t, x.just, api.OK)
		for _, s := range []string{x.over, " " + x.over + "\n", "[" + x.over + ",1]", "[1," + x.over + "]", `{"a":` + x.over + `,"b":1}`, `{"$tag":["t",` + x.over + `]}`, "[1e999," + x.over + "]", "[" + x.over + "," + x.over + "]"} {
			wantError(t, s, api.ErrLimit)
		}
		for _, s := range []string{x.over + "x", x.over + ",", "[" + x.over, "[" + x.over + "}", `{"a":` + x.over + `,"a":1}`, `{"$tag":["t",` + x.over + `,1]}`, `{"$x":` + x.over + `}`, x.over[:len(x.over)-1] + "x"} {
			wantNone(t, s)
		}
	}
}

// P7.2: documents that just have 65536 bytes, and more; blanks count, wherever they stand.
func TestReadLong(t *testing.T) {
	blanks := func(n int) string { return strings.Repeat(" \t\n\r", n/4+1)[:n] }
	for _, s := range [][2]string{{"", "1"}, {"1", ""}, {"[", "]"}, {"[1", "]"}, {"[1,", "2]"}, {`{"a"`, ":1}"}, {`{"a":`, "1}"}, {`{"$tag"`, `:["t",1]}`}, {`{"$tag":["t",1]`, `}`}, {`"a"`, ""}} {
		for _, n := range []int{65535, 65536} {
			wantError(t, s[0]+blanks(n-len(s[0])-len(s[1]))+s[1], api.OK)
		}
		for _, n := range []int{65537, 65538, 100000} {
			wantError(t, s[0]+blanks(n-len(s[0])-len(s[1]))+s[1], api.ErrLimit)
		}
		wantNone(t, s[0]+blanks(65536-len(s[0])-len(s[1]))+s[1]+"x")
		wantNone(t, s[0]+blanks(65537-len(s[0])-len(s[1]))+s[1]+"x")
	}
	wantError(t, blanks(65536), api.ErrJson)
	wantNone(t, blanks(65537))
}

// P7.2: what is very long, or very deep, is refused; none of it is too deep for the machine.
func TestReadGreat(t *testing.T) {
	const n = 1 << 20
	for _, s := range []string{"[", "]", "{", `{"a":`, `{"$tag":["t",`, `{"$$`, `"`, `"a`, "1", "-", "null", ",", `\`, "\xff", " ", "[1,", "[[],", `["a",`, `{"$float":`} {
		wantNone(t, strings.Repeat(s, n/len(s)))
		wantNone(t, strings.Repeat(s, 65536/len(s)))
		wantNone(t, strings.Repeat(s, 60))
	}
	wantNone(t, `"`+strings.Repeat("a", n))
	wantError(t, strings.Repeat("[", 9000)+strings.Repeat("]", 9000), api.ErrLimit)
	wantError(t, `"`+strings.Repeat("a", n)+`"`, api.ErrLimit)
	wantError(t, "[1"+strings.Repeat(",1", n)+"]", api.ErrLimit)
	wantError(t, strings.Repeat("1", n), api.ErrLimit)
}

// P7.2: of at most 16 bytes that are no document, also those ahead of whose fault a limit is passed.
func TestReadFewBytes(t *testing.T) {
	for _, s := range []string{
		`1e999x`, `1e999 x`, `1e999,`, `1e999]`, `[1e999`, `[1e999,`, `[1e999,]`, `[1e999}`, `[1e999 1]`, `[1e999,1e999`, `[1e999]]`, `[1e999,nul]`, `{"":1e999`, `{"":1e999,`, `{"":1e999,}`, `{"":1e999,"":1}`, `{"":1e999,"":""`, `{"$":1e999}`, `{"$tag":1e999}`, `{"$bytes":1e999}`, `{"$float":1e999}`, `{"a":1e999]`, `{"a":[1e999}`, `{"a":{1e999}}`, `[1e999,"\ud800`, `[1e999,"\a"]`, "[1e999,\"\xff\"]", "1e999\"", `1e9999999999999x`, `[1e999,[],{},,]`, `[[[[1e999]]]`, `{"a":1e-999,1}`, `1e999           `[:6] + `1`, `[[[[[[[[[[[[[[[[`, `1e4010000000000.`, `1111111111e999.1`, `{1e999:1}`, `["a":1e999]`,
	} {
		if len(s) > 16 {
			t.Fatalf("%s has %d bytes", s, len(s))
		}
		wantError(t, s, api.ErrJson)
	}
	for _, s := range []string{`1e999`, ` 1e999 `, `[1e999]`, `[1e999,1e999]`, `{"":1e999}`, `{"":1e999,"a":1}`, `[[[[1e999]]]]`, `-1e-999`, `1e99999999999999`, `[1e999,[],{},""]`, `{"$$":1e999}`, `1e999           `} {
		if len(s) > 16 {
			t.Fatalf("%s has %d bytes", s, len(s))
		}
		wantError(t, s, api.ErrLimit)
	}
}
