package utf_test

import (
	"math"
	"testing"

	"calamus/api"
	"calamus/utf"
)

// checkWhole holds Valid and Count against the characters looked up one by one.
func checkWhole(t *testing.T, s string) {
	t.Helper()
	list, e := charactersOf(s)
	if got := utf.Valid(s); got != (e == api.OK) {
		t.Errorf("Valid(% x) = %v", s, got)
	}
	want := api.OK
	if e != api.OK {
		want = api.ErrUtfForm // also of a text that is cut off
	}
	if n, e := utf.Count(s); n != len(list) || e != want {
		t.Errorf("Count(% x) = %d, %d, want %d, %d", s, n, e, len(list), want)
	}
}

// checkDecode holds Decode at a place against the character looked up there.
func checkDecode(t *testing.T, s string, at int) {
	t.Helper()
	r, n, e := first(s[at:])
	if gotR, gotN, gotE := utf.Decode(s, at); gotR != r || gotN != n || gotE != e {
		t.Errorf("Decode(% x, %d) = %x, %d, %d, want %x, %d, %d", s, at, gotR, gotN, gotE, r, n, e)
	}
}

// P3.1 of texts, and of what is none for a reason that is known.
func TestValidAndCount(t *testing.T) {
	for n, s := range []string{"", "a", "\u00e9\u20ac", "\U0001f600\ufffd\x00", "\U0010ffff\x7f\u0080\u07ff"} {
		if got, e := utf.Count(s); !utf.Valid(s) || got != n || e != api.OK {
			t.Errorf("% x: Count is %d, %d, want %d", s, got, e, n)
		}
	}
	for _, bad := range noTexts() {
		for _, s := range []string{bad, "a" + bad, bad + "a", "\u20ac" + bad + "\u20ac", bad + "\x80", bad + bad} {
			if n, e := utf.Count(s); utf.Valid(s) || n != 0 || e != api.ErrUtfForm {
				t.Errorf("% x: Valid, or Count is %d, %d", s, n, e)
			}
		}
	}
}

// P3.1 of each character by itself, whole, cut off behind each of its bytes, and less its first one.
func TestValidOfEachCharacter(t *testing.T) {
	for s := range all().characters {
		if n, e := utf.Count(s); !utf.Valid(s) || n != 1 || e != api.OK {
			t.Fatalf("% x: Valid is false, or Count is %d, %d", s, n, e)
		}
		for cut := 1; cut < len(s); cut++ {
			if utf.Valid(s[:cut]) || utf.Valid(s[cut:]) {
				t.Fatalf("% x, cut behind %d: Valid", s, cut)
			}
		}
	}
}

// P3.1 and P3.2 of short strings, and of such as are nearly texts.
func TestAgainstCharacters(t *testing.T) {
	for _, s := range append(shortStrings(), someStrings(31, 20000)...) {
		checkWhole(t, s)
		for at := range len(s) {
			checkDecode(t, s, at)
		}
	}
}

// P3.1 and P3.2 of four bytes, all of which are edges.
func TestFourBytes(t *testing.T) {
	for _, s := range edgeStrings(4) {
		checkWhole(t, s)
		if s != "" {
			checkDecode(t, s, 0)
		}
	}
}

// P3.2 of all characters, and of what is none between them.
func TestEncode(t *testing.T) {
	for r := range 0x110000 {
		want, wantE := bytesOf(r), api.OK
		if r >= 0xd800 && r <= 0xdfff {
			want, wantE = "", api.ErrArg
		}
		if s, e := utf.Encode(r); s != want || e != wantE {
			t.Fatalf("Encode(%x) = % x, %d, want % x, %d", r, s, e, want, wantE)
		}
	}
}

// P3.2 of the edges, told by their bytes.
func TestEncodeEdges(t *testing.T) {
	for r, want := range map[int]string{
		0: "\x00", 0x7f: "\x7f", 0x80: "\xc2\x80", 0x7ff: "\xdf\xbf", 0x800: "\xe0\xa0\x80", 0xd7ff: "\xed\x9f\xbf", 0xe000: "\xee\x80\x80",
		0xfffd: "\xef\xbf\xbd", 0xffff: "\xef\xbf\xbf", 0x10000: "\xf0\x90\x80\x80", 0x10ffff: "\xf4\x8f\xbf\xbf",
	} {
		if s, e := utf.Encode(r); s != want || e != api.OK {
			t.Errorf("Encode(%x) = % x, %d, want % x", r, s, e, want)
		}
		if got, n, e := utf.Decode(want, 0); got != r || n != len(want) || e != api.OK {
			t.Errorf("Decode(% x, 0) = %x, %d, %d, want %x", want, got, n, e, r)
		}
	}
}

// P3.2: numbers that are no characters, also such as would be some if their high bits were cut off.
func TestEncodeNone(t *testing.T) {
	for _, r := range []int{0xd800, 0xdbff, 0xdc00, 0xdfff, 0x110000, 0x110001, 0x1fffff, math.MaxInt32, math.MaxInt32 + 1, math.MaxUint32, 1<<32 + 0x41, 1<<33 + 0x20ac, math.MaxInt - 1, math.MaxInt,
		-1, -2, -0x41, -0xd800, math.MinInt32, math.MinInt32 - 1, -1<<32 + 0x41, math.MinInt + 0x41, math.MinInt} {
		if s, e := utf.Encode(r); s != "" || e != api.ErrArg {
			t.Errorf("Encode(%x) = % x, %d", r, s, e)
		}
	}
}

// P3.2: a character cut off behind each of its bytes, at the end and ahead of another.
func TestDecodeCutOff(t *testing.T) {
	for _, r := range edges() {
		s := bytesOf(r)
		for cut := 1; cut < len(s); cut++ {
			for _, ahead := range []string{"", "a", "\u20ac", "\xff", "\x80"} {
				part := ahead + s[:cut]
				if got, n, e := utf.Decode(part, len(ahead)); got != 0 || n != 0 || e != api.ErrUtfEnd {
					t.Errorf("Decode(% x, %d) = %x, %d, %d", part, len(ahead), got, n, e)
				}
				for _, behind := range []string{"a", "\x00", "\u20ac", "\xff", "\xc0", s} {
					if got, n, e := utf.Decode(part+behind, len(ahead)); got != 0 || n != 0 || e != api.ErrUtfForm {
						t.Errorf("Decode(% x, %d) = %x, %d, %d", part+behind, len(ahead), got, n, e)
					}
				}
			}
		}
	}
}

// P3.2: what no character begins with is no beginning, however short it is.
func TestDecodeNone(t *testing.T) {
	for _, s := range noTexts() {
		if _, n, e := first(s); e == api.OK {
			s = s[n:] // a character too early
		}
		for _, behind := range []string{"", "a", "\x80", "\x80\x80\x80"} {
			if r, n, e := utf.Decode(s+behind, 0); r != 0 || n != 0 || e != api.ErrUtfForm {
				t.Errorf("Decode(% x, 0) = %x, %d, %d", s+behind, r, n, e)
			}
		}
	}
}

// P3.2: places at which nothing stands, whatever the string is.
func TestDecodeNowhere(t *testing.T) {
	for _, s := range []string{"", "a", "\u20ac", "\xe2\x82", "\xc0\x80", "\xff", "a\u20acb"} {
		for _, at := range []int{-1, -2, -len(s), math.MinInt32, math.MinInt, len(s), len(s) + 1, 1 << 32, math.MaxInt - 1, math.MaxInt} {
			if at == 0 && s != "" {
				continue
			}
			if r, n, e := utf.Decode(s, at); r != 0 || n != 0 || e != api.ErrArg {
				t.Errorf("Decode(% x, %d) = %x, %d, %d", s, at, r, n, e)
			}
		}
	}
}

// P3.2: what stands ahead of the place, or behind the character, does not count.
func TestDecodeWithin(t *testing.T) {
	for _, r := range edges() {
		s := bytesOf(r)
		for _, ahead := range []string{"", "\u20ac", "\xff", "\xe2\x82", "\xf0"} {
			for _, behind := range []string{"", "a", "\x80", "\xff", "\xe2", s} {
				if got, n, e := utf.Decode(ahead+s+behind, len(ahead)); got != r || n != len(s) || e != api.OK {
					t.Errorf("Decode(% x, %d) = %x, %d, %d, want %x", ahead+s+behind, len(ahead), got, n, e, r)
				}
			}
		}
	}
}
