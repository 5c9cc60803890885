package proto_test

import (
	"runtime"
	"strings"
	"testing"

	"calamus/api"
	"calamus/proto"
	"calamus/value"
)

// wantOf asks for what Read answers of a message, which is OK or api.ErrLimit.
func wantOf(t *testing.T, what string, x api.Type, s string, want api.Errno) {
	t.Helper()
	v, e := proto.Read(x, []byte(s))
	if e != want || e != api.OK && !value.Equal(v, api.Value{}) {
		t.Errorf("P12.3: %s: %s, %d, want %d", what, told(v), e, want)
	}
}

// P12.3: each limit of values, just met and passed, also where another one counts.
func TestReadLimits(t *testing.T) {
	a := func(n int) string { return strings.Repeat("a", n) }
	fields := func(n int, s string) string { return strings.Repeat(s, n) }
	for _, x := range []struct {
		what       string
		t          api.Type
		just, over string
		again      string // what stands for no limit
	}{
		{"a text", textType, keyed(1, 2, a(4096)), keyed(1, 2, a(4097)), keyed(1, 2, "")},
		{"bytes", bytesType, keyed(1, 2, a(4096)), keyed(1, 2, a(4097)), keyed(1, 2, "")},
		{"texts in a list", listOf(textType), keyed(1, 2, a(4096)), keyed(1, 2, a(4097)), ""},
		{"a list of bool", listOf(boolType), fields(256, "\x08\x01"), fields(257, "\x08\x01"), ""},
		{"a packed list of bool", listOf(boolType), keyed(1, 2, fields(256, "\x01")), keyed(1, 2, fields(257, "\x01")), ""},
		{"a list of bool that is packed in part", listOf(boolType), keyed(1, 2, fields(255, "\x01")) + "\x08\x01", keyed(1, 2, fields(255, "\x01")) + "\x08\x01" + keyed(1, 2, "\x00"), ""},
		{"a packed list of int", listOf(intType), keyed(1, 2, fields(256, "\x80\x01")), keyed(1, 2, fields(257, "\x80\x01")), ""},
		{"a packed list of float", listOf(floatType), keyed(1, 2, fields(256, "abcdefgh")), keyed(1, 2, fields(257, "abcdefgh")), ""},
		{"a list of num", listOf(numType), fields(256, keyed(1, 2, "1")), fields(257, keyed(1, 2, "1")), ""},
		{"a list of records", listOf(recordOf("")), fields(256, keyed(1, 2, "")), fields(257, keyed(1, 2, "")), ""},
		{"values in records", listOf(wideOf(15, boolType)), fields(255, keyed(1, 2, "")), fields(256, keyed(1, 2, "")), ""},
		{"values in wide records", listOf(wideOf(255, boolType)), fields(15, keyed(1, 2, "")), fields(16, keyed(1, 2, "")), ""},
		{"values in lists", listOf(recordOf("b c", listOf(boolType), boolType)), fields(19, keyed(1, 2, keyed(1, 2, fields(210, "\x01")))), fields(20, keyed(1, 2, keyed(1, 2, fields(210, "\x01")))), ""},
	} {
		wantOf(t, x.what, recordOf("a", x.t), x.just, api.OK)
		wantOf(t, x.what, recordOf("a", x.t), x.over, api.ErrLimit)
		if x.again != "" {
			wantOf(t, x.what+", put aside", recordOf("a", x.t), x.over+x.again, api.OK)
			wantOf(t, x.what+", again", recordOf("a", x.t), x.again+x.over, api.ErrLimit)
		}
		outer := recordOf("z", recordOf("a", x.t))
		wantOf(t, x.what+", in a record", outer, keyed(1, 2, x.just), api.OK)
		wantOf(t, x.what+", in a record", outer, keyed(1, 2, x.over), api.ErrLimit)
		wantOf(t, x.what+", in a record put aside", outer, keyed(1, 2, x.over)+keyed(1, 2, ""), api.OK)
		wantOf(t, x.what+", in a record put aside", outer, keyed(1, 2, x.over)+keyed(1, 2, x.just), api.OK)
		wantOf(t, x.what+", in a record that counts", outer, keyed(1, 2, x.just)+keyed(1, 2, x.over), api.ErrLimit)
	}
}

// P12.3: at most 4096 values, itself too, of whatever they are made up.
func TestReadSize(t *testing.T) {
	x := recordOf("a b c", listOf(wideOf(255, boolType)), listOf(boolType), recordOf("d e", boolType, listOf(intType)))
	// The record, two lists, a record with two, and 15 times 256: 3846; so 250 more.
	fifteen := strings.Repeat(keyed(1, 2, ""), 15)
	for n := 200; n <= 256; n++ {
		want := api.OK
		if n > 250 {
			want = api.ErrLimit
		}
		wantOf(t, "values", x, fifteen+keyed(2, 2, strings.Repeat("\x01", n)), want)
		wantOf(t, "values", x, keyed(3, 2, keyed(2, 2, strings.Repeat("\x01", n)))+fifteen, want)
		wantOf(t, "values", x, keyed(3, 2, keyed(2, 2, strings.Repeat("\x01", 300)))+keyed(2, 2, strings.Repeat("\x01", n))+keyed(3, 2, "\x08\x01")+fifteen, want)
	}
	wantOf(t, "values", wideOf(15, wideOf(255, boolType)), "", api.OK)
	wantOf(t, "values", wideOf(15, wideOf(255, boolType)), keyed(15, 2, "\x08\x01"), api.OK)
	full := wideOf(15, wideOf(255, boolType))
	full.Names, full.List = append(full.Names, "x", "y"), append(full.List, wideOf(252, boolType), listOf(boolType))
	for n, want := range []api.Errno{api.OK, api.OK, api.ErrLimit, api.ErrLimit} { // 4096 types, and 4095 values
		wantOf(t, "values", full, strings.Repeat("\x88\x01\x01", n), want)
	}
}

// P12.3: a document has at most 65536 bytes, whatever stands there.
func TestReadLong(t *testing.T) {
	x := recordOf("a", textType)
	for n := 65400; n < 65700; n++ {
		want := api.OK
		if n > 65536 {
			want = api.ErrLimit
		}
		wantOf(t, "a field that is left out", x, keyed(2, 2, strings.Repeat("\xff", n-4)), want)
		wantOf(t, "fields that are put aside", x, keyed(1, 2, strings.Repeat("a", 40000-4))+keyed(1, 2, strings.Repeat("a", n-40000-6))+keyed(1, 2, ""), want)
		v, e := proto.Read(x, []byte(strings.Repeat("\x0b", n)))
		if e != api.ErrProto && e != api.ErrLimit || !value.Equal(v, api.Value{}) {
			t.Errorf("P12.3: no message of %d bytes: %d", n, e)
		}
	}
	wantOf(t, "bytes", x, strings.Repeat("\x78\x00", 1<<20), api.ErrLimit)
}

// R1: what is put aside, or passes a limit, is not made: else few bytes would ask for many values.
func TestReadEnds(t *testing.T) {
	many := strings.Repeat("\x0a\x00", 32768)
	for _, x := range []struct {
		what string
		t    api.Type
		want api.Errno
	}{
		{"records put aside", wideOf(15, wideOf(255, intType)), api.OK},
		{"records in a list", listOf(wideOf(15, wideOf(255, boolType))), api.ErrLimit},
		{"records of lists in a list", listOf(wideOf(255, listOf(boolType))), api.ErrLimit},
		{"records of records in a list", listOf(wideOf(255, recordOf(""))), api.ErrLimit},
	} {
		var before, after runtime.MemStats
		runtime.ReadMemStats(&before)
		wantOf(t, x.what, recordOf("a", x.t), many, x.want)
		runtime.ReadMemStats(&after)
		if n := (after.TotalAlloc - before.TotalAlloc) >> 20; n > 100 {
			t.Errorf("R1: %s: it takes %d million bytes", x.what, n)
		}
	}
}
