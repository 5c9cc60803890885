package pack_test

import (
	"math/big"
	"strings"
	"unicode/utf8"

	"calamus/api"
	"calamus/fbits"
	"calamus/num"
	"calamus/value"
)

// reckoned is what bytes are, reckoned apart from the package: all of them at once, by the chapter's table, numbers by the library's.
type reckoned struct {
	document bool
	limit    bool      // it passes one
	value    api.Value // if it is a document, and passes none
}

// noDocument is what the reckoner gives up by.
type noDocument struct{}

func reckon(b []byte) (x reckoned) {
	defer func() {
		if gave := recover(); gave != nil {
			if _, ok := gave.(noDocument); !ok {
				panic(gave)
			}
			x = reckoned{}
		}
	}()
	k := reckoner{rest: b}
	v := k.item()
	k.want(len(k.rest) == 0)
	if k.over || len(b) > api.MaxBytes || value.Check(v) != api.OK {
		return reckoned{document: true, limit: true}
	}
	return reckoned{document: true, value: v}
}

type reckoner struct {
	rest []byte
	over bool // a number's text is beyond what num.Parse takes
}

func (k *reckoner) want(ok bool) {
	if !ok {
		panic(noDocument{})
	}
}

// next are the next n bytes.
func (k *reckoner) next(n int) string {
	k.want(n <= len(k.rest))
	b := k.rest[:n]
	k.rest = k.rest[n:]
	return string(b)
}

// bits are the next n bytes as a whole number.
func (k *reckoner) bits(n int) *big.Int {
	return new(big.Int).SetBytes([]byte(k.next(n)))
}

// length is what the next n bytes tell.
func (k *reckoner) length(n int) int { return int(k.bits(n).Int64()) }

func (k *reckoner) item() api.Value {
	c := int(k.next(1)[0])
	switch {
	case c <= 0x7f:
		return whole(big.NewInt(int64(c)).String())
	case c <= 0x8f:
		return k.record(c - 0x80)
	case c <= 0x9f:
		return k.list(c - 0x90)
	case c <= 0xbf:
		return k.text(c - 0xa0)
	case c >= 0xe0:
		return whole(big.NewInt(int64(c) - 256).String())
	}
	switch c {
	case 0xc0:
		return null
	case 0xc2, 0xc3:
		return flag(c == 0xc3)
	case 0xc4, 0xc5, 0xc6:
		return raw(k.next(k.length(1 << (c - 0xc4))))
	case 0xc7, 0xc8, 0xc9:
		return k.extension(k.length(1 << (c - 0xc7)))
	case 0xca:
		return float(fbits.Widen32(uint32(k.bits(4).Uint64())))
	case 0xcb:
		return float(k.bits(8).Uint64())
	case 0xcc, 0xcd, 0xce, 0xcf:
		return whole(k.bits(1 << (c - 0xcc)).String())
	case 0xd0, 0xd1, 0xd2, 0xd3:
		return k.signed(1 << (c - 0xd0))
	case 0xd4, 0xd5, 0xd6, 0xd7, 0xd8:
		return k.extension(1 << (c - 0xd4))
	case 0xd9, 0xda, 0xdb:
		return k.text(k.length(1 << (c - 0xd9)))
	case 0xdc, 0xdd:
		return k.list(k.length(2 << (c - 0xdc)))
	case 0xde, 0xdf:
		return k.record(k.length(2 << (c - 0xde)))
	}
	panic(noDocument{})
}

func (k *reckoner) text(n int) api.Value {
	s := k.next(n)
	k.want(utf8.ValidString(s))
	return text(s)
}

func (k *reckoner) list(n int) api.Value {
	v := list()
	for range n {
		v.List = append(v.List, k.item())
	}
	return v
}

// signed is a number of n bytes.
func (k *reckoner) signed(n int) api.Value {
	m := k.bits(n)
	if m.Bit(8*n-1) == 1 {
		m.Sub(m, new(big.Int).Lsh(big.NewInt(1), uint(8*n)))
	}
	return whole(m.String())
}

func (k *reckoner) extension(n int) api.Value {
	k.want(k.next(1) == "\x01")
	made, e := num.Parse(k.next(n))
	k.want(e != api.ErrNumForm)
	if e == api.ErrLimit {
		k.over = true
		return null
	}
	return number(made)
}

func (k *reckoner) record(n int) api.Value {
	v := record("")
	for range n {
		name := k.item()
		k.want(name.Kind == api.KindText)
		v.Names = append(v.Names, name.Text)
		v.List = append(v.List, k.item())
	}
	if n > 0 && v.Names[0] == "$tag" {
		k.want(n == 1)
		in := v.List[0] // what is a list or a text here was written so
		k.want(in.Kind == api.KindList && len(in.List) == 2 && in.List[0].Kind == api.KindText)
		return tag(in.List[0].Text, in.List[1])
	}
	if n > 0 && strings.HasPrefix(v.Names[0], "$") {
		k.want(strings.HasPrefix(v.Names[0], "$$"))
		v.Names[0] = v.Names[0][1:]
	}
	seen := map[string]bool{}
	for _, name := range v.Names {
		k.want(!seen[name])
		seen[name] = true
	}
	return v
}
