package cbor_test

import (
	"fmt"
	"math/big"
	"strings"
	"testing"

	"calamus/api"
)

// bigItem is a big number's item: of a whole number from 0 on the bytes, with noughts in front.
func bigItem(below bool, n *big.Int, noughts int) string {
	mark := "\xc2"
	if below {
		mark = "\xc3"
	}
	s := strings.Repeat("\x00", noughts) + string(n.Bytes())
	return mark + head(2, uint64(len(s))) + s
}

// digits is the whole number of these digits.
func digits(s string) *big.Int {
	n, ok := new(big.Int).SetString(s, 10)
	if !ok {
		panic(s)
	}
	return n
}

// over are documents that just meet a limit, and pass it.
func over() []struct{ just, over string } {
	times := strings.Repeat
	row := func(major int, s string) string { return head(major, uint64(len(s))) + s }
	pieces := func(major, n int) string {
		return string([]byte{byte(major*0x20 + 0x1f)}) + times(row(major, "a"), n) + "\xff"
	}
	items := func(n int, parts bool) string {
		if parts {
			return "\x9f" + times("\xf6", n) + "\xff"
		}
		return head(4, uint64(n)) + times("\xf6", n)
	}
	wide := func(n int, parts bool) string {
		s := ""
		for i := range n {
			s += row(3, fmt.Sprint(i)) + "\x80"
		}
		if parts {
			return "\xbf" + s + "\xff"
		}
		return head(5, uint64(n)) + s
	}
	sized := func(n int) string { // a list with n values in it, itself too
		s := ""
		for n--; n > 257; n -= 257 {
			s += items(256, false)
		}
		if n > 200 {
			s, n = s+items(99, true), n-100
		}
		return "\x9f" + s + times("\xf6", n) + "\xff"
	}
	forty, noughts := times("9", 40), times("0", 400)
	tagged := "\xd8\x1b\x82\x61t"
	return []struct{ just, over string }{
		{row(3, times("a", 4096)), row(3, times("a", 4097))},
		{row(3, times("\u00e9", 2048)), row(3, times("\u00e9", 2048)+"a")},
		{row(3, times("a", 4096)), row(3, times("a", 65536))},
		{row(3, times("a", 4096)), row(3, times("a", 65537))},
		{row(2, times("\xff", 4096)), row(2, times("\xff", 4097))},
		{pieces(3, 4096), pieces(3, 4097)}, {pieces(2, 4096), pieces(2, 4097)}, {pieces(2, 4096), pieces(2, 30000)},
		{"\x7f" + row(3, times("a", 4095)) + "\x61a\xff", "\x7f" + row(3, times("a", 4095)) + "\x62aa\xff"},
		{"\x5f" + row(2, times("a", 4096)) + "\x40\xff", "\x5f" + row(2, times("a", 4096)) + "\x41a\xff"},
		{"\xa1" + row(3, times("a", 64)) + "\x00", "\xa1" + row(3, times("a", 65)) + "\x00"},
		{"\xa2\x61b\x00" + row(3, times("$", 64)) + "\x00", "\xa2\x61b\x00" + row(3, times("$", 65)) + "\x00"},
		{"\xa1" + pieces(3, 64) + "\x00", "\xa1" + pieces(3, 65) + "\x00"},
		{"\xbf" + row(3, times("\u00e9", 32)) + "\x00\xff", "\xbf" + row(3, times("\u00e9", 33)) + "\x00\xff"},
		{"\xd8\x1b\x82" + row(3, times("a", 64)) + "\x00", "\xd8\x1b\x82" + row(3, times("a", 65)) + "\x00"},
		{"\xd8\x1b\x9f" + pieces(3, 64) + "\x00\xff", "\xd8\x1b\x9f" + pieces(3, 5000) + "\x00\xff"},
		{items(256, false), items(257, false)}, {items(256, true), items(257, true)}, {wide(256, false), wide(257, false)}, {wide(256, true), wide(257, true)}, {headOf(4, 256, 8) + times("\xf6", 256), headOf(4, 257, 8) + times("\xf6", 257)},
		{sized(4096), sized(4097)}, {sized(4095), "\x81" + sized(4096)}, {sized(4094), "\xa1\x61a" + sized(4096)},
		{times("\x81", 15) + "\x80", times("\x81", 16) + "\x80"}, {times("\x9f", 16) + times("\xff", 16), times("\x9f", 17) + times("\xff", 17)}, {times("\x81", 15) + "\x00", times("\x81", 16) + "\x00"}, {times("\x81", 15) + x("c4822001"), times("\x81", 16) + x("c4822001")}, {times("\x81", 15) + x("c240"), times("\x81", 16) + x("c240")}, {times("\x81", 15) + "\x7f\xff", times("\x81", 16) + "\x7f\xff"},
		{times("\xa1\x61a", 15) + "\xa0", times("\xa1\x61a", 16) + "\xa0"}, {times("\xbf\x61a", 15) + "\x00" + times("\xff", 15), times("\xbf\x61a", 16) + "\x00" + times("\xff", 16)},
		{times(tagged, 15) + "\x00", times(tagged, 16) + "\x00"}, {times(tagged, 15) + "\x80", times(tagged, 40) + "\x80"}, {times("\x81\xa1\x61a"+tagged, 5) + "\x80", times("\x81\xa1\x61a"+tagged, 5) + "\x81\x00"}, {times("\x81", 15) + "\x80", times("\x81", 30000) + "\x80"},
		{bigItem(false, digits(forty), 0), bigItem(false, digits("1"+forty), 0)}, {bigItem(false, digits(forty+noughts), 0), bigItem(false, digits(forty+"0"+noughts), 0)}, {bigItem(false, digits("1"+noughts), 0), bigItem(false, digits("10"+noughts), 0)}, {bigItem(false, digits(forty+noughts), 5000), bigItem(false, digits("1"+forty), 5000)},
		{bigItem(true, digits(forty[1:]+"8"), 0), bigItem(true, digits("1"+times("0", 40)), 0)},                  // of n and -1 less n the second is none
		{bigItem(true, digits("1"+times("0", 38)), 0), bigItem(true, digits(times("9", 41)), 0)},                 // the first is none
		{bigItem(true, digits(forty), 0), bigItem(true, digits("2"+noughts), 0)},                                 // the second
		{bigItem(true, digits(forty), 100), bigItem(true, digits(forty+noughts), 100)},                           // the second
		{bigItem(false, new(big.Int), 60000), bigItem(false, new(big.Int).Lsh(big.NewInt(1), 1464), 0)},          // more bytes than any number has
		{bigItem(false, new(big.Int), 60000), bigItem(false, new(big.Int).Lsh(big.NewInt(1), 8*4000), 100)},      // the same
		{bigItem(true, new(big.Int), 5000), bigItem(true, new(big.Int).Lsh(big.NewInt(1), 8*10000), 0)},          // the same
		{bigItem(true, new(big.Int), 5000), "\xc3\x5f" + times("\x41\x01", 1000) + "\xff"},                       // the same
		{"\xc2\x5f" + times("\x41\x00", 30000) + "\x41\x01\xff", "\xc2\x5f" + times("\x41\x01", 20000) + "\xff"}, // the same
		{x("c482190190 01"), x("c482190191 01")}, {x("c48239018f 01"), x("c482390190 01")}, {x("c48219018f 0a"), x("c482190190 0a")}, {x("c482390190 0a"), x("c482390191 0a")}, {x("c482190190 c24101"), x("c482190191 c24101")}, {x("c482190190 20"), x("c4821b7fffffffffffffff 20")}, {x("c482190190 20"), x("c4821bffffffffffffffff 20")}, {x("c48239018f 01"), x("c4823b7fffffffffffffff 01")}, {x("c48239018f 01"), x("c4823bffffffffffffffff 01")}, {x("c48239018f 01"), x("c4821b8000000000000000 01")}, {x("c48239018f 01"), x("c4823b8000000000000190 01")}, {x("c4821bffffffffffffffff 00"), x("c49f1bffffffffffffffff 01 ff")}, {x("c48239018f 01"), x("c4821b0000000100000000 01")}, {x("c48239018f 01"), x("c4821a80000000 01")},
		{"\xc4\x82\x39\x03\x1f" + bigItem(false, digits(forty+noughts), 0), "\xc4\x82\x39\x03\x20" + bigItem(false, digits(forty+noughts), 0)},
		{"\xc4\x82\x00" + bigItem(false, digits(forty+noughts), 0), "\xc4\x82\x01" + bigItem(false, digits(forty+noughts), 0)},
		{"\xc4\x82\x29" + bigItem(false, digits("1"+noughts), 0), "\xc4\x82\x29" + bigItem(false, digits("10"+noughts), 0)}, // the factor is none by itself
		{"\xc4\x82\x29" + bigItem(true, digits(forty), 0), "\xc4\x82\x29" + bigItem(true, digits(times("9", 41)), 0)},
		{"\xc4\x82\x29" + bigItem(false, digits(forty), 0), "\xc4\x82\x29" + bigItem(false, digits("1"+forty), 0)},
	}
}

// P8.2: each limit, just met and just passed, alone and within others.
func TestReadLimits(t *testing.T) {
	for _, c := range over() {
		wantError(t, c.just, api.OK)
		for _, s := range []string{c.over, "\x82" + c.over + "\x00", "\x82\x00" + c.over, "\x9f" + c.over + c.over + "\xff", "\xa2\x61a" + c.over + "\x61b\x00", "\xbf\x61a" + c.over + "\xff", "\xd8\x1b\x82\x61t" + c.over, x("82c48219019101") + c.over} {
			wantError(t, s, api.ErrLimit)
		}
		for _, s := range []string{c.over + "\x00", c.over + "\xff", "\x82" + c.over, "\x9f" + c.over + "\x1c\xff", "\xa2\x61a" + c.over + "\x61a\x00", "\xd8\x1b\x82\x60" + c.over + "\x00", "\xc2" + c.over, "\xc4\x82" + c.over + "\x00", c.over[:len(c.over)-1]} {
			if !reckon([]byte(s)).document {
				wantNone(t, s)
			}
		}
	}
}

// P8.2: documents that just have 65536 bytes, and more.
func TestReadLong(t *testing.T) {
	long := func(begin, end string, n int) string { // noughts in front of a big number's bytes
		n -= len(begin) + len(end) + len("\xc2\x5a\x00\x00\x00\x00")
		return begin + "\xc2" + headOf(2, uint64(n), 4) + strings.Repeat("\x00", n-1) + "\x05" + end
	}
	for _, s := range [][2]string{{"", ""}, {"\x81", ""}, {"\x9f", "\xff"}, {"\x9f\x00", "\x00\xff"}, {"\xa1\x61a", ""}, {"\xd8\x1b\x82\x60", ""}, {"\xc4\x82\x20", ""}, {"\xc4\x9f\x20", "\xff"}} {
		for _, n := range []int{65535, 65536} {
			wantError(t, long(s[0], s[1], n), api.OK)
		}
		for _, n := range []int{65537, 65538, 100000} {
			wantError(t, long(s[0], s[1], n), api.ErrLimit)
		}
		for _, n := range []int{65535, 65536, 65537} {
			wantNone(t, long(s[0], s[1], n)+"\x00")
			wantNone(t, long(s[0], s[1], n)[:n-1])
		}
	}
	wantError(t, "\x5f"+strings.Repeat("\x40", 65534)+"\xff", api.OK)
	wantError(t, "\x5f"+strings.Repeat("\x40", 65535)+"\xff", api.ErrLimit)
	wantError(t, "\xa1\x7f"+strings.Repeat("\x60", 65532)+"\xff\x00", api.OK)
}

// P8.2: what is very long, or very deep, is refused; none of it is too deep for the machine.
func TestReadGreat(t *testing.T) {
	const n = 1 << 17
	for _, s := range []string{"\x81", "\x9f", "\xa1\x61a", "\xbf\x61a", "\xd8\x1b\x82\x61t", "\xd8\x1b", "\xc4", "\xc2", "\xc4\x82", "\x5f", "\x5f\x41\x00", "\x7f\x61", "\xff", "\x00", "\x1b", "\x82\x00", "\xdb", "\xbb", "\xc2\x5f\x41\x01", "\x82\x80"} {
		wantNone(t, strings.Repeat(s, n/len(s)))
		wantNone(t, strings.Repeat(s, 65536/len(s)))
		wantNone(t, strings.Repeat(s, 60))
	}
	for _, s := range []string{"\x9b\xff\xff\xff\xff\xff\xff\xff\xff", "\xbb\xff\xff\xff\xff\xff\xff\xff\xff", "\x5b\xff\xff\xff\xff\xff\xff\xff\xff", "\x7b\xff\xff\xff\xff\xff\xff\xff\xff", "\xc2\x5b\xff\xff\xff\xff\xff\xff\xff\xff", "\x9b\x80\x00\x00\x00\x00\x00\x00\x00", "\xbb\x80\x00\x00\x00\x00\x00\x00\x00", "\x5b\x80\x00\x00\x00\x00\x00\x00\x00", "\xc2\x5b\x80\x00\x00\x00\x00\x00\x00\x00", "\x5b\x00\x00\x00\x01\x00\x00\x00\x00", "\xc2\x5b\x00\x00\x00\x01\x00\x00\x00\x00", "\x9b\x00\x00\x00\x01\x00\x00\x00\x00", "\xbb\x00\x00\x00\x01\x00\x00\x00\x00"} {
		for _, k := range []int{0, 1, 3, 5, 6, 7, 8, 100, 70000} {
			wantNone(t, s+strings.Repeat("\x00", k))
			wantNone(t, s+strings.Repeat("\x60", k))
		}
	}
	wantError(t, strings.Repeat("\x81", n)+"\x00", api.ErrLimit)
	wantError(t, strings.Repeat("\x9f", 32768)+strings.Repeat("\xff", 32768), api.ErrLimit)
	wantError(t, "\x9f"+strings.Repeat("\x00", n)+"\xff", api.ErrLimit)
}

// P8.2: of at most 16 bytes that are no document, also those ahead of whose fault a limit is passed.
func TestReadFewBytes(t *testing.T) {
	for _, digits := range []string{
		"c48219019101 00", "c48219019101 ff", "81 c48219019101 00", "82 c48219019101", "9f c48219019101", "9f c48219019101 1c", "9f c48219019101 ff ff", "a1 c48219019101 00", "a2 60 c48219019101 60 00", "a1 60 c48219019101 00", "a2 60 c48219019101", "a2 60 c48219019101 00 00", "bf 60 c48219019101 60 ff", "bf 60 c48219019101 60 00 ff", "d81b82 c48219019101 00", "d81b83 60 c48219019101 00", "d81b9f 60 c48219019101", "d81b9f 60 c48219019101 00 ff", "c4 82 c48219019101 00", "c2 c48219019101", "5f c48219019101 ff", "82 c48219019101 61 ff", "82 c48219019101 f7", "c49f19019101", "c49f19019101 00 ff", "c483 190191 01 00", "c482190191", "c482190191 60", "c482190191 c2 60", "82 c482190191c24101", "82 c48219019101 5f60ff", "83 c48219019101 c48219019101",
		"99 01 01", "99 01 01 00", "b9 01 01 61 61 00", "9b ffffffffffffffff 00", "99 01 01 ff", "99ffff 1c", "9a00010000 1f", "bb ffffffffffffffff 60 00", "bb ffffffffffffffff 60 00 60 00", "79 10 01", "79 10 01 61", "59 ff ff 00", "5b ffffffffffffffff 00", "7f 79 10 01 61", "5f 5b ffffffffffffffff", "c2 5b ffffffffffffffff 00", "a1 79 10 01 61", "d81b 82 79 10 01 61", "81 99 01 01 00 00 00 00 00 00 00 00 00 00 00 00", "8f 99 01 01 f6 f6 f6 f6 f6 f6 f6 f6 f6 f6 f6 f6", "81 81 81 81 81 81 81 81 81 81 81 81 81 81 81 81", "9f 9f 9f 9f 9f 9f 9f 9f 9f 9f 9f 9f 9f 9f 9f 9f", "7b 8000000000000000 61 61 61 61 61 61 61",
	} {
		if len(x(digits)) > 16 {
			t.Fatalf("%s has %d bytes", digits, len(x(digits)))
		}
		wantError(t, x(digits), api.ErrCbor)
	}
	for _, digits := range []string{
		"c48219019101", "c482390190 01", "81 c48219019101", "9f c48219019101 ff", "82 c48219019101 00", "a1 60 c48219019101", "bf 60 c48219019101 ff", "a2 60 c48219019101 61 61 00", "d81b82 60 c48219019101", "d81b9f 60 c48219019101 ff", "c49f 190191 01 ff", "c49f 190191 c25f 4101 ff ff", "c4821bffffffffffffffff 01", "82 c48219019101 c48219019101", "81 81 81 81 81 81 81 81 81 81 c48219019101",
	} {
		if len(x(digits)) > 16 {
			t.Fatalf("%s has %d bytes", digits, len(x(digits)))
		}
		wantError(t, x(digits), api.ErrLimit)
	}
}
