package check_test

import (
	"slices"

	"calamus/api"
	"calamus/num"
	"calamus/value"
)

// What a mapping makes of a value is reckoned here by chapter 16's table, so that what is told of types can be held against values.

var null = api.Value{Kind: api.KindNull}

func flag(b bool) api.Value { return api.Value{Kind: api.KindBool, Flag: b} }

func number(digits string, exp int) api.Value {
	return api.Value{Kind: api.KindNum, Num: api.Num{Digits: digits, Exp: exp}}
}

func float(bits uint64) api.Value { return api.Value{Kind: api.KindFloat, Bits: bits} }

func text(s string) api.Value { return api.Value{Kind: api.KindText, Text: s} }

func raw(s string) api.Value { return api.Value{Kind: api.KindBytes, Text: s} }

func list(l ...api.Value) api.Value { return api.Value{Kind: api.KindList, List: l} }

func tagged(name string, v api.Value) api.Value {
	return api.Value{Kind: api.KindTag, Text: name, List: []api.Value{v}}
}

// plainValues are some values of each type without parts.
func plainValues(k api.TypeKind) []api.Value {
	wholes := []api.Value{number("0", 0), number("1", 0), number("25", 2)}
	switch k {
	case api.TypeNull:
		return []api.Value{null}
	case api.TypeBool:
		return []api.Value{flag(false), flag(true)}
	case api.TypeInt:
		return wholes
	case api.TypeNum:
		return append(wholes, number("5", -1))
	case api.TypeFloat:
		return []api.Value{float(0), float(1)}
	case api.TypeText:
		return []api.Value{text("1"), text("1.0"), text("a"), text("true")}
	case api.TypeBytes:
		return []api.Value{raw("1"), raw("\xff")}
	}
	record := api.Value{Kind: api.KindRecord, Names: []string{"a"}, List: []api.Value{null}}
	return []api.Value{null, flag(true), number("1", 0), number("5", -1), float(1), text("1"), raw("1"), list(), list(number("1", 0)), {Kind: api.KindRecord}, record, tagged("a", null)}
}

// valuesOf are some values of a type, at most a few hundred, such that what leaves out a part of them makes two of them into one.
func valuesOf(t api.Type) []api.Value {
	switch t.Kind {
	case api.TypeList:
		return listsOf(few(valuesOf(t.List[0]), 5))
	case api.TypeRecord:
		return recordsOf(t)
	case api.TypeUnion:
		var l []api.Value
		for i, u := range t.List {
			for _, v := range few(valuesOf(u), 30) {
				l = append(l, tagged(t.Names[i], v))
			}
		}
		return l
	}
	return plainValues(t.Kind)
}

// few is up to n of l.
func few(l []api.Value, n int) []api.Value { return l[:min(n, len(l))] }

func listsOf(l []api.Value) []api.Value {
	all := []api.Value{list()}
	for _, v := range l {
		all = append(all, list(v))
		for _, w := range l {
			all = append(all, list(v, w))
		}
	}
	return all
}

func recordsOf(t api.Type) []api.Value {
	rows := [][]api.Value{nil}
	for _, u := range t.List {
		var longer [][]api.Value
		for _, row := range rows {
			for _, v := range few(valuesOf(u), 12) {
				longer = append(longer, append(slices.Clone(row), v))
			}
		}
		rows = longer[:min(len(longer), 150)]
	}
	var l []api.Value
	for _, row := range rows {
		l = append(l, api.Value{Kind: api.KindRecord, Names: t.Names, List: row})
	}
	return l
}

// done is what e makes of v, or the first error.
func done(e api.Expr, v api.Value) (api.Value, api.Errno) {
	w, bad := doneUnbound(e, v)
	if bad == api.OK && value.Check(w) != api.OK {
		return api.Value{}, api.ErrLimit
	}
	return w, bad
}

func doneUnbound(e api.Expr, v api.Value) (api.Value, api.Errno) {
	switch {
	case e.Op == api.OpId:
		return v, api.OK
	case e.Op == api.OpConst:
		return e.Value, api.OK
	case e.Op == api.OpTag:
		return tagged(e.Name, v), api.OK
	case e.Op == api.OpGet && v.Kind == api.KindRecord && slices.Contains(v.Names, e.Name):
		return v.List[slices.Index(v.Names, e.Name)], api.OK
	case e.Op == api.OpCase && v.Kind == api.KindTag && slices.Contains(e.Names, v.Text):
		return done(e.List[slices.Index(e.Names, v.Text)], v.List[0])
	case e.Op == api.OpMap && v.Kind == api.KindList:
		return doneEach(slices.Repeat(e.List, len(v.List)), v.List, list())
	case e.Op == api.OpRecord:
		return doneEach(e.List, slices.Repeat([]api.Value{v}, len(e.List)), api.Value{Kind: api.KindRecord, Names: e.Names})
	case e.Op == api.OpCount && v.Kind == api.KindList:
		n, _ := num.Of(false, []byte{byte(len(v.List))})
		return api.Value{Kind: api.KindNum, Num: n}, api.OK
	case e.Op == api.OpSum && v.Kind == api.KindList:
		return doneSum(v.List)
	case e.Op == api.OpToText || e.Op == api.OpToNum:
		return doneScalar(e.Op, v)
	case e.Op == api.OpPipe:
		bad := api.OK
		for _, x := range e.List {
			if v, bad = done(x, v); bad != api.OK {
				return api.Value{}, bad
			}
		}
		return v, api.OK
	}
	return api.Value{}, api.ErrEvalType
}

// doneEach puts into whole what each mapping makes of the value in its place.
func doneEach(l []api.Expr, values []api.Value, whole api.Value) (api.Value, api.Errno) {
	for i, e := range l {
		v, bad := done(e, values[i])
		if bad != api.OK {
			return api.Value{}, bad
		}
		whole.List = append(whole.List, v)
	}
	return whole, api.OK
}

func doneSum(l []api.Value) (api.Value, api.Errno) {
	all := api.Num{Digits: "0"}
	for _, v := range l {
		if v.Kind != api.KindNum {
			return api.Value{}, api.ErrEvalType
		}
		next, bad := num.Add(all, v.Num)
		if bad != api.OK {
			return api.Value{}, api.ErrEvalCoerce
		}
		all = next
	}
	return api.Value{Kind: api.KindNum, Num: all}, api.OK
}

func doneScalar(op api.Op, v api.Value) (api.Value, api.Errno) {
	switch {
	case op == api.OpToText && v.Kind == api.KindBool && v.Flag:
		return text("true"), api.OK
	case op == api.OpToText && v.Kind == api.KindBool:
		return text("false"), api.OK
	case op == api.OpToText && v.Kind == api.KindNum:
		s, _ := num.Print(v.Num)
		return text(s), api.OK
	case op == api.OpToText && v.Kind == api.KindText, op == api.OpToNum && v.Kind == api.KindNum:
		return v, api.OK
	case op == api.OpToNum && v.Kind == api.KindText:
		n, bad := num.Parse(v.Text)
		if bad != api.OK {
			return api.Value{}, api.ErrEvalCoerce
		}
		return api.Value{Kind: api.KindNum, Num: n}, api.OK
	}
	return api.Value{}, api.ErrEvalType
}
