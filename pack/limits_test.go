package pack_test

import (
	"fmt"
	"strings"
	"testing"

	"calamus/api"
)

// tagged is what a tag begins with.
const tagged = "\x81\xa4$tag\x92\xa1t"

// huge is a number's item beyond the limits, of eight bytes.
const huge = "\xc7\x05\x011e401"

// over are documents that just meet a limit, and pass it.
func over() []struct{ just, over string } {
	times := strings.Repeat
	text := func(s string) string { return textHead(len(s)) + s }
	raw := func(s string) string { return bytesHead(len(s)) + s }
	number := func(s string) string { return headOf(0xc8, uint64(len(s)), 2) + "\x01" + s }
	items := func(n int) string { return listHead(n) + times("\xc0", n) }
	wide := func(n int) string {
		s := recordHead(n)
		for i := range n {
			s += text(fmt.Sprint(i)) + "\x90"
		}
		return s
	}
	sized := func(n int) string { // a list with n values in it, itself too
		s, k := "", 0
		for n--; n > 257; n, k = n-257, k+1 {
			s += items(256)
		}
		if n > 200 {
			s, n, k = s+items(99), n-100, k+1
		}
		return listHead(k+n) + s + times("\xc0", n)
	}
	forty := times("9", 40)
	return []struct{ just, over string }{
		{text(times("a", 4096)), text(times("a", 4097))},
		{text(times("\u00e9", 2048)), text(times("\u00e9", 2048) + "a")},
		{headOf(0xdb, 4096, 4) + times("a", 4096), headOf(0xdb, 4097, 4) + times("a", 4097)},
		{text(times("a", 4096)), text(times("a", 65536))}, {text(times("a", 4096)), text(times("a", 65537))}, {text(times("a", 4096)), text(times("a", 65533))},
		{raw(times("\xff", 4096)), raw(times("\xff", 4097))}, {raw(times("\xff", 4096)), raw(times("\xff", 65536))},
		{"\x81" + text(times("a", 64)) + "\x00", "\x81" + text(times("a", 65)) + "\x00"},
		{"\x81" + text(times("a", 64)) + "\x00", "\x81" + text(times("a", 66)) + "\x00"},
		{"\x81" + text("$$"+times("a", 63)) + "\x00", "\x81" + text("$$"+times("a", 64)) + "\x00"},
		{"\x81" + text(times("$", 65)) + "\x00", "\x81" + text(times("$", 66)) + "\x00"},
		{"\x82\xa1b\x00" + text(times("$", 64)) + "\x00", "\x82\xa1b\x00" + text(times("$", 65)) + "\x00"},
		{"\x81" + text(times("\u00e9", 32)) + "\x00", "\x81" + text(times("\u00e9", 33)) + "\x00"},
		{"\x81" + text(times("a", 64)) + "\x00", "\x81" + text(times("a", 5000)) + "\x00"},
		{"\x81\xa4$tag\x92" + text(times("a", 64)) + "\x00", "\x81\xa4$tag\x92" + text(times("a", 65)) + "\x00"},
		{"\x81\xa4$tag\x92" + text(times("$", 64)) + "\x00", "\x81\xa4$tag\x92" + text(times("$", 5000)) + "\x00"},
		{items(256), items(257)}, {wide(256), wide(257)}, {headOf(0xdd, 256, 4) + times("\xc0", 256), headOf(0xdd, 257, 4) + times("\xc0", 257)}, {items(256), items(65535)}, {items(256), items(65530)},
		{sized(4096), sized(4097)}, {sized(4095), "\x91" + sized(4096)}, {sized(4094), "\x81\xa1a" + sized(4096)}, {sized(4094), tagged + sized(4096)}, {tagged + sized(4095), "\x92\x00" + sized(4095)},
		{times("\x91", 15) + "\x90", times("\x91", 16) + "\x90"}, {times("\x91", 15) + "\x00", times("\x91", 16) + "\x00"}, {times("\x91", 15) + "\x80", times("\x91", 16) + "\x80"}, {times("\x91", 15) + "\xa0", times("\x91", 16) + "\xa0"}, {times("\x91", 15) + number("1"), times("\x91", 16) + number("1")}, {times("\x91", 15) + "\xc4\x00", times("\x91", 16) + "\xc4\x00"},
		{times("\x81\xa1a", 15) + "\x80", times("\x81\xa1a", 16) + "\x80"}, {times("\x81\xa1a", 15) + "\x00", times("\x81\xa1a", 16) + "\x00"},
		{times(tagged, 15) + "\x00", times(tagged, 16) + "\x00"}, {times(tagged, 15) + "\x90", times(tagged, 40) + "\x90"}, {times("\x91\x81\xa1a"+tagged, 5) + "\x90", times("\x91\x81\xa1a"+tagged, 5) + "\x91\x00"}, {times("\x91", 14) + tagged + "\x00", times("\x91", 15) + tagged + "\x00"}, {times("\x91", 15) + "\x90", times("\x91", 30000) + "\x90"},
		{number(forty), number("1" + forty)}, {number("-" + forty), number("-1" + forty)}, {number("1e400"), huge}, {number("1e-400"), number("1e-401")}, {number("0.1e401"), number("0.1e402")}, {number("10e-401"), number("1.0e-401")}, {number(forty + "e400"), number(forty + "0e400")}, {number("0e99999999999999999999"), number("1e99999999999999999999")},
		{number("0." + times("0", 510)), number("0." + times("0", 511))}, {number("1" + times("0", 400)), number("1" + times("0", 401))}, {number("1." + times("0", 510)), number("1." + times("0", 5000))}, {number("0e" + times("0", 510)), number("0e" + times("0", 511))}, {number("0e" + times("1", 510)), number("0e" + times("1", 60000))}, {number("0e" + times("1", 510)), headOf(0xc9, 65530, 4) + "\x01" + times("1", 65530)},
	}
}

// P9.2: each limit, just met and just passed, alone and within others.
func TestReadLimits(t *testing.T) {
	for _, c := range over() {
		wantError(t, c.just, api.OK)
		for _, s := range []string{c.over, "\x92" + c.over + "\x00", "\x92\x00" + c.over, "\xdc\x00\x02" + c.over + c.over, "\x82\xa1a" + c.over + "\xa1b\x00", "\x81\xa2$$" + c.over, tagged + c.over, "\x92" + huge + c.over} {
			wantError(t, s, api.ErrLimit)
		}
		for _, s := range []string{c.over + "\x00", c.over + "\xc1", "\x92" + c.over, "\x92" + c.over + "\xc1", "\x82\xa1a" + c.over + "\xa1a\x00", "\x82\xa4$tag\x92\xa1t" + c.over + "\xa1a\x00", "\x81\xa4$tag\x93\xa1t" + c.over + "\x00", "\x81\xa4$tag" + c.over, "\x81\xa1$" + c.over, "\x81" + c.over + "\x00", c.over[:len(c.over)-1]} {
			if !reckon([]byte(s)).document {
				wantNone(t, s)
			}
		}
	}
}

// P9.2: documents that just have 65536 bytes, and more.
func TestReadLong(t *testing.T) {
	for _, s := range [][2]string{{"", ""}, {"\x91", ""}, {"\x92", "\x00"}, {"\x92\x00", ""}, {"\x81\xa1a", ""}, {"\x82\xa1a", "\xa1b\x00"}, {tagged, ""}, {"\x92" + tagged + "\x00", ""}} {
		for n := 65530; n < 65545; n++ {
			doc := s[0] + document(filled(null, n-len(s[0])-len(s[1]))) + s[1]
			if n <= 65536 {
				wantError(t, doc, api.OK)
			} else {
				wantError(t, doc, api.ErrLimit)
			}
			wantNone(t, doc+"\x00")
			wantNone(t, doc[:n-1])
		}
	}
	long := "\xdc\x01\x00" + strings.Repeat("\xc5\x0f\x00"+strings.Repeat("a", 0x0f00), 256)
	wantError(t, long, api.ErrLimit)
	wantNone(t, long+"\x00")
	wantNone(t, long[:len(long)-1])
}

// P9.2: what is very long, or very deep, is refused; none of it is too deep for the machine.
func TestReadGreat(t *testing.T) {
	const n = 1 << 17
	for _, s := range []string{"\x91", "\x92", "\x81\xa1a", "\x81", "\x82\xa1a\x00", tagged, "\x81\xa4$tag", "\x81\xa4$tag\x92", "\xdc\x00\x01", "\xdd\x00\x00\x00\x01", "\xdd\xff", "\xdf\xff", "\xc9\xff", "\xc7\xff\x01", "\xdb", "\xc6", "\xc1", "\x00", "\xff", "\xcf", "\x92\x00", "\x92\x90", "\xd4\x01", "\xd8\x01", "\xc7\x01\x01"} {
		wantNone(t, strings.Repeat(s, n/len(s)))
		wantNone(t, strings.Repeat(s, 65536/len(s)))
		wantNone(t, strings.Repeat(s, 60))
	}
	for _, s := range []string{"\xdd\xff\xff\xff\xff", "\xdf\xff\xff\xff\xff", "\xdb\xff\xff\xff\xff", "\xc6\xff\xff\xff\xff", "\xc9\xff\xff\xff\xff\x01", "\xc9\xff\xff\xff\xff\x02", "\xdd\x80\x00\x00\x00", "\xdf\x80\x00\x00\x00", "\xdb\x80\x00\x00\x00", "\xc6\x80\x00\x00\x00", "\xc9\x80\x00\x00\x00\x01", "\xdd\x00\x01\x00\x00", "\xdf\x00\x01\x00\x00", "\xdb\x00\x02\x00\x00", "\xc6\x00\x02\x00\x00", "\xc9\x00\x02\x00\x00\x01", "\xc8\xff\xff\x01", "\xda\xff\xff", "\xc5\xff\xff"} {
		for _, k := range []int{0, 1, 5, 6, 7, 8, 9, 10, 11, 12, 13, 100} {
			wantNone(t, s+strings.Repeat("\x00", k))
			wantNone(t, s+strings.Repeat("\xa0", k))
			wantNone(t, s+strings.Repeat("1", k))
		}
	}
	wantError(t, strings.Repeat("\x91", n)+"\x00", api.ErrLimit)
	wantError(t, strings.Repeat("\x81\xa0", n)+"\x00", api.ErrLimit)
	wantError(t, "\xdd\x00\x02\x00\x00"+strings.Repeat("\x00", n), api.ErrLimit)
	wantError(t, "\xdb\x00\x02\x00\x00"+strings.Repeat("\x00", n), api.ErrLimit)
	wantError(t, "\xc6\x00\x02\x00\x00"+strings.Repeat("\x00", n), api.ErrLimit)
	wantError(t, "\xc9\x00\x02\x00\x00\x01"+strings.Repeat("1", n), api.ErrLimit)
}

// P9.2: of at most 16 bytes that are no document, also those ahead of whose fault a limit is passed.
func TestReadFewBytes(t *testing.T) {
	for _, s := range []string{
		huge + "\x00", huge + "\xc1", "\x91" + huge + "\x00", "\x92" + huge, "\x92" + huge + "\xc1", "\x92" + huge + "\xa1\xff", "\x92" + huge + "\xa1", "\x92" + huge + "\xd4\x027", "\x92" + huge + "\xd4\x01x", "\x92" + huge + "\x81\x00\x00", "\x92" + huge + "\x81\xa1$\x00", "\x92" + huge + "\x81\xa2$x", "\x81" + huge, "\x81" + huge + "\x00", "\x81\xa1$" + huge, "\x82\xa0" + huge, "\x82\xa0" + huge + "\xa0\x00", "\x82\xa0" + huge + "\x00\x00", "\x82\xa0" + huge + "\xa1", "\x93" + huge + "\x00", "\x81\xa4$tag" + huge, "\xdc\x00\x02" + huge, "\x91\x91\x91\x91\x91\x92" + huge, "\x92\x90" + huge + "\x00",
		"\x81\xa4$tag\x92" + huge[:7], "\x91\xc7\x05\x011e401\xc1", "\xd6\x011e4x", "\xd7\x011e40000x", "\xd7\x011e40000", "\xc7\x09\x011e4000000x", "\xc7\x0d\x0100e4000000000", "\xd8\x011e400000000000",
		"\xdc\x01\x01", "\xdc\x01\x01\x00", "\xdc\x01\x01\xc1", "\xdc\xff\xff\x00", "\xdd\xff\xff\xff\xff\x00", "\xdd\xff\xff\xff\xff\xc1", "\xde\x01\x01\xa1a\x00", "\xde\x01\x01\xa1a\x00\xa1a\x00", "\xdf\xff\xff\xff\xff\xa0\x00\xa0\x00", "\xde\x01\x01\xa4$tag\x92\xa1t\xc0", "\xde\x01\x01\x00", "\xda\x10\x01a", "\xdb\xff\xff\xff\xffa", "\xc5\x10\x01\xff", "\xc6\xff\xff\xff\xff\x00", "\xc8\x02\x01\x0111", "\xc9\xff\xff\xff\xff\x011", "\xc9\xff\xff\xff\xff\x021", "\x81\xd9\x42a", "\x81\xda\x10\x01a", "\x82\xa0\x00\xd9\x41a", "\x81\xa4$tag\x92\xd9\x41t", "\x81\xa4$tag\xdc\x01\x01\xa1t\xc0", "\x81\xa4$tag\xdd\xff\xff\xff\xff\xa1t",
		"\xdc\x01\x01\xc0\xc0\xc0\xc0\xc0\xc0\xc0\xc0\xc0\xc0\xc0\xc0\xc0", strings.Repeat("\x91", 16), strings.Repeat("\x81\xa0", 8), "\xda\x10\x01aaaaaaaaaaaaa",
	} {
		if len(s) > 16 {
			t.Fatalf("% x has %d bytes", s, len(s))
		}
		wantError(t, s, api.ErrPack)
	}
	for _, s := range []string{
		huge, "\xc7\x06\x011e-401", "\x91" + huge, "\x92" + huge + "\x00", "\x92\x00" + huge, "\x81\xa0" + huge, "\x82\xa0" + huge + "\xa1a\x00", "\x82\xa0" + huge + "\xa1$\x00", "\x81\xa2$$" + huge, "\xdc\x00\x01" + huge, "\xd7\x011e400000", "\xd7\x01-1e-4000", "\x91\x91\x91\x91\x91\x91\x91\x91" + huge, "\x92" + huge + "\xa1$", "\x94" + huge + "\x90\x80\xc0", "\x92" + huge + "\xd4\x017", "\x92\xd6\x01" + "0e99" + huge, "\x92" + huge + "\xd6\x011e40",
	} {
		if len(s) > 16 {
			t.Fatalf("% x has %d bytes", s, len(s))
		}
		wantError(t, s, api.ErrLimit)
	}
}
