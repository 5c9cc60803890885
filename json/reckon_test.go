package json_test

import (
	"bytes"
	stdjson "encoding/json"
	"regexp"
	"strconv"
	"strings"
	"unicode/utf8"

	"calamus/api"
	"calamus/num"
	"calamus/value"
)

// reckoned is what bytes are, reckoned apart from the package: by the library's JSON, and the chapter's words on top of it.
type reckoned struct {
	document bool      // that has a value
	limit    bool      // it passes one
	value    api.Value // if it is a document, and passes none
}

func reckon(b []byte) reckoned {
	if !stdjson.Valid(b) || !utf8.Valid(b) || !areWhole(b) {
		return reckoned{}
	}
	d := stdjson.NewDecoder(bytes.NewReader(b))
	d.UseNumber()
	k := reckoner{d: d, ok: true}
	v := k.value(k.next())
	if !k.ok {
		return reckoned{}
	}
	if k.over || len(b) > api.MaxBytes || value.Check(v) != api.OK {
		return reckoned{document: true, limit: true}
	}
	return reckoned{document: true, value: v}
}

var escape = regexp.MustCompile(`\\(u[0-9a-fA-F]{4}|.)`)

// areWhole tells whether no half of a character stands alone; the library does not mind.
func areWhole(b []byte) bool {
	waits := -1 // where the second half has to stand
	for _, at := range escape.FindAllIndex(b, -1) {
		n, e := uint64(0), error(nil)
		if b[at[0]+1] == 'u' {
			n, e = strconv.ParseUint(string(b[at[0]+2:at[1]]), 16, 16)
		}
		low := n >= 0xdc00 && n <= 0xdfff
		if e != nil || waits >= 0 && waits != at[0] || low != (waits >= 0) {
			return false
		}
		waits = -1
		if n >= 0xd800 && n <= 0xdbff {
			waits = at[1]
		}
	}
	return waits < 0
}

type reckoner struct {
	d    *stdjson.Decoder
	ok   bool
	over bool // a number's text is beyond what num.Parse takes
}

func (k *reckoner) next() stdjson.Token {
	t, err := k.d.Token()
	if err != nil {
		panic(err) // it is valid
	}
	return t
}

func (k *reckoner) value(t stdjson.Token) api.Value {
	switch x := t.(type) {
	case nil:
		return null
	case bool:
		return flag(x)
	case string:
		return text(x)
	case stdjson.Number:
		n, e := num.Parse(string(x))
		if e == api.ErrLimit {
			k.over = true
			return null
		}
		return number(n)
	}
	if t == stdjson.Delim('{') {
		return k.object()
	}
	v := list()
	for k.d.More() {
		v.List = append(v.List, k.value(k.next()))
	}
	k.next()
	return v
}

func (k *reckoner) object() api.Value {
	var ns []string
	var vs []api.Value
	for k.d.More() {
		ns = append(ns, k.next().(string))
		vs = append(vs, k.value(k.next()))
	}
	k.next()
	if len(ns) > 0 && strings.HasPrefix(ns[0], "$") {
		return k.special(ns, vs)
	}
	return k.record(ns, vs)
}

func (k *reckoner) record(ns []string, vs []api.Value) api.Value {
	seen := map[string]bool{}
	for _, n := range ns {
		k.ok = k.ok && !seen[n]
		seen[n] = true
	}
	return api.Value{Kind: api.KindRecord, Names: ns, List: vs}
}

var (
	floatDigits = regexp.MustCompile(`^[0-9a-f]{16}$`)
	bytesDigits = regexp.MustCompile(`^([0-9a-f][0-9a-f])*$`)
)

// special is an object whose first name begins with `$`. (No such one is a text or a list: what is one in v was written so.)
func (k *reckoner) special(ns []string, vs []api.Value) api.Value {
	if strings.HasPrefix(ns[0], "$$") {
		ns[0] = ns[0][1:]
		return k.record(ns, vs)
	}
	v := vs[0]
	if len(ns) == 1 {
		switch {
		case ns[0] == "$float" && v.Kind == api.KindText && floatDigits.MatchString(v.Text):
			b, _ := strconv.ParseUint(v.Text, 16, 64)
			return float(b)
		case ns[0] == "$bytes" && v.Kind == api.KindText && bytesDigits.MatchString(v.Text):
			var b []byte
			for i := 0; i < len(v.Text); i += 2 {
				c, _ := strconv.ParseUint(v.Text[i:i+2], 16, 8)
				b = append(b, byte(c))
			}
			return raw(string(b))
		case ns[0] == "$tag" && v.Kind == api.KindList && len(v.List) == 2 && v.List[0].Kind == api.KindText:
			return tag(v.List[0].Text, v.List[1])
		}
	}
	k.ok = false
	return null
}
