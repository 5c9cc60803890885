package quote_test

import (
	"encoding/json"
	"fmt"
	"strings"
	"testing"

	"calamus/quote"
)

// Each byte, alone and among others: bytes of longer characters are left as they are, too.
func TestEachByte(t *testing.T) {
	all, told := "", ""
	for c := range 256 {
		s := string([]byte{byte(c)})
		want := s
		switch {
		case c == '"' || c == '\\':
			want = `\` + s
		case c < 32:
			want = fmt.Sprintf(`\u%04x`, c)
		}
		all, told = all+s, told+want
		for _, around := range []string{"", "a", "\u20ac", `\`} {
			quoted := strings.ReplaceAll(around, `\`, `\\`)
			if got := quote.Text(around + s + around); got != `"`+quoted+want+quoted+`"` {
				t.Errorf("Text of byte %d = %s", c, got)
			}
		}
	}
	if got := quote.Text(all + all); got != `"`+told+told+`"` {
		t.Errorf("Text of all bytes = %s", got)
	}
}

// Texts of all lengths are what the library reads again.
func TestThereAndBack(t *testing.T) {
	for _, s := range []string{"", "a", `"`, `\`, `""`, `\\`, `\u0041`, "\x00\x1f\x7f\u0080", "\u00e9\u20ac\U0001f600\U0010ffff", strings.Repeat("\x01\"", 3000)} {
		var back string
		if e := json.Unmarshal([]byte(quote.Text(s)), &back); e != nil || back != s {
			t.Errorf("Text(%q) = %s, read as %q, %v", s, quote.Text(s), back, e)
		}
	}
}
