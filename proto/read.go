package proto

import (
	"slices"
	"strconv"

	"calamus/api"
	"calamus/num"
	"calamus/utf"
	"calamus/value"
)

// reader is what is noted while a message is read. It is gone through twice: all of it must fit its type, but only what counts is made into values, so that what a later field puts aside costs nothing, and passes no limit.
type reader struct {
	beyond bool // a number's text was beyond the limits
	made   int  // values that count
}

// read answers the value of at most api.MaxBytes bytes, by a type that has a wire form.
func read(t api.Type, b []byte) (v api.Value, e api.Errno) {
	defer func() {
		if gave, ok := recover().(api.Errno); ok {
			v, e = api.Value{}, gave
		}
	}()
	var r reader
	whole := piece{wire: wireBytes, bytes: b}
	r.judge(t, whole)
	if r.beyond {
		panic(api.ErrLimit)
	}
	v = r.field(t, []piece{whole})
	if value.Check(v) != api.OK {
		panic(api.ErrLimit)
	}
	return v, api.OK
}

// judge gives up, unless p is what stands in a field of that type.
func (r *reader) judge(t api.Type, p piece) {
	switch t.Kind {
	case api.TypeList:
		for _, q := range elements(t.List[0], p) {
			r.judge(t.List[0], q)
		}
	case api.TypeRecord:
		for _, q := range fields(p.want(wireBytes).bytes, len(t.List)) {
			r.judge(t.List[q.place], q)
		}
	default:
		r.maker(t)(p) // what does not fit is not made
	}
}

// count notes that values were made, and gives up where they are too many: what is made goes no further than a value may.
func (r *reader) count(n int) {
	r.made += n
	if r.made > api.MaxSize {
		panic(api.ErrLimit)
	}
}

// maker is how a value of a type that is no list is made of what stands in a field.
func (r *reader) maker(t api.Type) func(p piece) api.Value {
	switch t.Kind {
	case api.TypeBool:
		return r.flag
	case api.TypeInt:
		return r.whole
	case api.TypeNum:
		return r.number
	case api.TypeFloat:
		return r.float
	case api.TypeText:
		return r.text
	case api.TypeBytes:
		return r.bytes
	}
	return message{r, t}.record
}

func (r *reader) flag(p piece) api.Value {
	n := p.want(wireVarint).word
	if n > 1 {
		panic(api.ErrProto)
	}
	return api.Value{Kind: api.KindBool, Flag: n == 1}
}

func (r *reader) whole(p piece) api.Value {
	if p.wire == wireVarint {
		n, _ := num.Parse(strconv.FormatInt(unzigzag(p.word), 10)) // 19 digits at the most
		return api.Value{Kind: api.KindNum, Num: n}
	}
	v, within := r.parse(p)
	if within && !num.IsInt(v.Num) {
		panic(api.ErrProto)
	}
	return v
}

func (r *reader) number(p piece) api.Value {
	v, _ := r.parse(p)
	return v
}

// parse makes the number that a text says; false, if it is beyond the limits, which is noted.
func (r *reader) parse(p piece) (api.Value, bool) {
	n, e := num.Parse(string(p.want(wireBytes).bytes))
	switch e {
	case api.OK:
		return api.Value{Kind: api.KindNum, Num: n}, true
	case api.ErrLimit:
		r.beyond = true
		return api.Value{}, false
	}
	panic(api.ErrProto)
}

func (r *reader) float(p piece) api.Value {
	return api.Value{Kind: api.KindFloat, Bits: p.want(wireFixed).word}
}

func (r *reader) text(p piece) api.Value {
	s := string(p.want(wireBytes).bytes)
	if !utf.Valid(s) {
		panic(api.ErrProto)
	}
	return api.Value{Kind: api.KindText, Text: s}
}

func (r *reader) bytes(p piece) api.Value {
	return api.Value{Kind: api.KindBytes, Text: string(p.want(wireBytes).bytes)}
}

// message is a record's type, whose values are made.
type message struct {
	*reader
	t api.Type
}

func (m message) record(p piece) api.Value {
	came := make([][]piece, len(m.t.List))
	for _, q := range fields(p.want(wireBytes).bytes, len(m.t.List)) {
		came[q.place] = append(came[q.place], q)
	}
	v := api.Value{Kind: api.KindRecord, Names: slices.Clone(m.t.Names)}
	for i, u := range m.t.List {
		v.List = append(v.List, m.field(u, came[i]))
	}
	return v
}

// field makes the value of a field, of all that came for it.
func (r *reader) field(t api.Type, came []piece) api.Value {
	if t.Kind == api.TypeList {
		return r.list(t.List[0], came)
	}
	if len(came) == 0 {
		v := absent(t)
		r.count(value.Size(v))
		return v
	}
	r.count(1)
	return r.maker(t)(came[len(came)-1])
}

func (r *reader) list(t api.Type, came []piece) api.Value {
	r.count(1)
	v := api.Value{Kind: api.KindList}
	element := r.maker(t)
	for _, p := range came {
		for _, q := range elements(t, p) {
			r.count(1)
			v.List = append(v.List, element(q))
		}
	}
	return v
}

// unzigzag is the number whose zigzag is z.
func unzigzag(z uint64) int64 {
	n := int64(z >> 1)
	if z%2 == 1 {
		return -1 - n
	}
	return n
}
