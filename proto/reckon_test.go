package proto_test

import (
	"encoding/binary"
	"math/big"
	"strings"
	"unicode/utf8"

	"calamus/api"
	"calamus/num"
	"calamus/value"
)

// This file reckons the answers apart, by the chapter's words: a message is cut into fields, whole, ahead of asking what they are; numbers are big ones; a value is made without any regard to limits, and looked at when it is done.

// part is a field of a message.
type part struct {
	number *big.Int
	wire   int
	digits *big.Int // wire 0
	eight  string   // wire 1
	rest   string   // wire 2
}

// cutVarint cuts a varint off s.
func cutVarint(s string) (*big.Int, string, bool) {
	for i := range min(len(s), 10) {
		if s[i] >= 128 {
			continue
		}
		n := new(big.Int)
		for k := i; k >= 0; k-- {
			n.Mul(n, big.NewInt(128))
			n.Add(n, big.NewInt(int64(s[k]%128)))
		}
		return n, s[i+1:], n.BitLen() <= 64
	}
	return nil, s, false
}

// cutWire cuts what stands in a field of that wire off s.
func cutWire(wire int, s string) (part, string, bool) {
	p := part{wire: wire}
	ok := false
	switch wire {
	case 0:
		p.digits, s, ok = cutVarint(s)
	case 1:
		if ok = len(s) >= 8; ok {
			p.eight, s = s[:8], s[8:]
		}
	case 2:
		var n *big.Int
		n, s, ok = cutVarint(s)
		if ok = ok && n.Cmp(big.NewInt(int64(len(s)))) <= 0; ok {
			p.rest, s = s[:n.Int64()], s[n.Int64():]
		}
	}
	return p, s, ok
}

// cutParts cuts a message into its fields; false, if it is none, whatever the type.
func cutParts(s string) ([]part, bool) {
	var l []part
	for s != "" {
		key, rest, ok := cutVarint(s)
		if !ok {
			return nil, false
		}
		number, wire := new(big.Int).DivMod(key, big.NewInt(8), new(big.Int))
		p, rest, ok := cutWire(int(wire.Int64()), rest)
		if !ok {
			return nil, false
		}
		p.number = number
		l, s = append(l, p), rest
	}
	return l, true
}

// reckoner notes whether a number's text was beyond the limits.
type reckoner struct {
	beyond bool
}

// ones are the values that one field has, as those of a list, or as one.
func (r *reckoner) ones(t api.Type, p part, inList bool) ([]api.Value, bool) {
	switch {
	case inList && p.wire == 2 && (t.Kind == api.TypeBool || t.Kind == api.TypeInt):
		return r.unpack(t, 0, p.rest)
	case inList && p.wire == 2 && t.Kind == api.TypeFloat:
		return r.unpack(t, 1, p.rest)
	case t.Kind == api.TypeBool && p.wire == 0 && p.digits.BitLen() <= 1:
		return []api.Value{flag(p.digits.Sign() > 0)}, true
	case t.Kind == api.TypeInt && p.wire == 0:
		return r.parsed(true, unzigzagged(p.digits).String())
	case t.Kind == api.TypeInt && p.wire == 2:
		return r.parsed(true, p.rest)
	case t.Kind == api.TypeNum && p.wire == 2:
		return r.parsed(false, p.rest)
	case t.Kind == api.TypeFloat && p.wire == 1:
		return []api.Value{float(binary.LittleEndian.Uint64([]byte(p.eight)))}, true
	case t.Kind == api.TypeText && p.wire == 2 && utf8.ValidString(p.rest):
		return []api.Value{text(p.rest)}, true
	case t.Kind == api.TypeBytes && p.wire == 2:
		return []api.Value{raw(p.rest)}, true
	case t.Kind == api.TypeRecord && p.wire == 2:
		v, ok := r.message(t, p.rest)
		return []api.Value{v}, ok
	}
	return nil, false
}

func (r *reckoner) unpack(t api.Type, wire int, s string) (l []api.Value, ok bool) {
	for s != "" {
		var p part
		if p, s, ok = cutWire(wire, s); !ok {
			return nil, false
		}
		one, ok := r.ones(t, p, false)
		if !ok {
			return nil, false
		}
		l = append(l, one...)
	}
	return l, true
}

// unzigzagged is n of its zigzag: half of it, or, of an odd one, half of what is one more, below 0.
func unzigzagged(z *big.Int) *big.Int {
	if z.Bit(0) == 0 {
		return new(big.Int).Rsh(z, 1)
	}
	n := new(big.Int).Add(z, big.NewInt(1))
	return n.Rsh(n, 1).Neg(n)
}

func (r *reckoner) parsed(whole bool, s string) ([]api.Value, bool) {
	n, e := num.Parse(s)
	if e == api.ErrLimit {
		r.beyond = true
		return []api.Value{{}}, true
	}
	return []api.Value{{Kind: api.KindNum, Num: n}}, e == api.OK && (!whole || n.Exp >= 0)
}

// none is the value of a field that does not come.
func none(t api.Type) api.Value {
	switch t.Kind {
	case api.TypeBool:
		return flag(false)
	case api.TypeInt, api.TypeNum:
		return number("0", 0)
	case api.TypeFloat:
		return float(0)
	case api.TypeText:
		return text("")
	case api.TypeBytes:
		return raw("")
	case api.TypeList:
		return list()
	}
	v := api.Value{Kind: api.KindRecord, Names: t.Names}
	for _, u := range t.List {
		v.List = append(v.List, none(u))
	}
	return v
}

func (r *reckoner) message(t api.Type, s string) (api.Value, bool) {
	l, ok := cutParts(s)
	v := none(t)
	for _, p := range l {
		if p.number.Sign() == 0 || p.number.Cmp(big.NewInt(int64(len(t.List)))) > 0 {
			continue
		}
		at := int(p.number.Int64()) - 1
		u := t.List[at]
		if u.Kind == api.TypeList {
			more, fits := r.ones(u.List[0], p, true)
			v.List[at].List, ok = append(v.List[at].List, more...), ok && fits
			continue
		}
		one, fits := r.ones(u, p, false)
		if ok = ok && fits; ok {
			v.List[at] = one[0]
		}
	}
	return v, ok
}

// reckonRead is P12.3 of a type that has a wire form. Where either of two errors may be answered, it is api.ErrProto.
func reckonRead(t api.Type, b []byte) (api.Value, api.Errno) {
	var r reckoner
	v, ok := r.message(t, string(b))
	switch {
	case !ok:
		return api.Value{}, api.ErrProto
	case len(b) > 65536 || r.beyond || value.Check(v) != api.OK:
		return api.Value{}, api.ErrLimit
	}
	return v, api.OK
}

// varintOf is the short varint of n.
func varintOf(n *big.Int) string {
	var b strings.Builder
	n = new(big.Int).Set(n)
	for n.BitLen() > 7 {
		low := new(big.Int)
		n.DivMod(n, big.NewInt(128), low)
		b.WriteByte(byte(low.Int64()) + 128)
	}
	b.WriteByte(byte(n.Int64()))
	return b.String()
}

func smallVarint(n int) string { return varintOf(big.NewInt(int64(n))) }

// keyed is a field: its key ahead of what stands there.
func keyed(number, wire int, s string) string {
	if wire == 2 {
		s = smallVarint(len(s)) + s
	}
	return smallVarint(8*number+wire) + s
}

// zigzagged is a number's zigzag, and whether it fits.
func zigzagged(n api.Num) (*big.Int, bool) {
	x, _ := new(big.Int).SetString(n.Digits+strings.Repeat("0", n.Exp), 10)
	if n.Neg {
		x.Neg(x)
	}
	least, most := new(big.Int).Lsh(big.NewInt(-1), 63), new(big.Int).Lsh(big.NewInt(1), 63)
	fits := x.Cmp(least) >= 0 && x.Cmp(most) < 0
	if x.Sign() >= 0 {
		return x.Mul(x, big.NewInt(2)), fits
	}
	x.Mul(x, big.NewInt(-2))
	return x.Sub(x, big.NewInt(1)), fits
}

// bare is what stands in a field of v of the wires 0 and 1.
func bare(t api.Type, v api.Value) (wire int, s string, fits bool) {
	switch t.Kind {
	case api.TypeBool:
		if v.Flag {
			return 0, "\x01", true
		}
		return 0, "\x00", true
	case api.TypeInt:
		z, fits := zigzagged(v.Num)
		return 0, varintOf(z), fits
	case api.TypeFloat:
		return 1, string(binary.LittleEndian.AppendUint64(nil, v.Bits)), true
	}
	return 2, "", false
}

// reckonOne is a field that is no list, or that has one element.
func reckonOne(t api.Type, number int, v api.Value) (string, bool) {
	if wire, s, ok := bare(t, v); ok {
		return keyed(number, wire, s), true
	}
	switch t.Kind {
	case api.TypeInt, api.TypeNum:
		s, _ := num.Print(v.Num)
		return keyed(number, 2, s), true
	case api.TypeRecord:
		s, ok := reckonMessage(t, v)
		return keyed(number, 2, s), ok
	}
	return keyed(number, 2, v.Text), true
}

// reckonMessage is a record's document, however long; false, if it has none.
func reckonMessage(t api.Type, v api.Value) (string, bool) {
	all := ""
	for i, u := range t.List {
		w := v.List[i]
		if value.Equal(w, none(u)) {
			continue
		}
		s, ok := "", true
		if u.Kind == api.TypeList {
			s, ok = reckonList(u.List[0], i+1, w.List)
		} else {
			s, ok = reckonOne(u, i+1, w)
		}
		if !ok {
			return "", false
		}
		all += s
	}
	return all, true
}

func reckonList(t api.Type, number int, l []api.Value) (string, bool) {
	all := ""
	if t.Kind == api.TypeBool || t.Kind == api.TypeInt || t.Kind == api.TypeFloat {
		for _, v := range l {
			_, s, ok := bare(t, v)
			if !ok {
				return "", false
			}
			all += s
		}
		return keyed(number, 2, all), true
	}
	for _, v := range l {
		s, ok := reckonOne(t, number, v)
		if !ok {
			return "", false
		}
		all += s
	}
	return all, true
}

// reckonWrite is P12.2 of a value of a type that has a wire form.
func reckonWrite(t api.Type, v api.Value) (string, api.Errno) {
	if e := value.Check(v); e != api.OK {
		return "", e
	}
	s, ok := reckonMessage(t, v)
	if !ok || len(s) > 65536 {
		return "", api.ErrLimit
	}
	return s, api.OK
}
