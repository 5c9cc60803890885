package types

import (
	"slices"

	"calamus/api"
	"calamus/num"
	"calamus/value"
)

// Has is P11.2.
func Has(t api.Type, v api.Value) (bool, api.Errno) {
	if e := Check(t); e != api.OK {
		return false, e
	}
	if e := value.Check(v); e != api.OK {
		return false, e
	}
	return hasAll(t, []api.Value{v}), api.OK
}

// hasAll tells whether all of l are t's values. They are asked about together, so that a union's names are laid into a map once, however many tags there are.
func hasAll(t api.Type, l []api.Value) bool {
	if len(l) == 0 {
		return true
	}
	switch t.Kind {
	case api.TypeList:
		return hasLists(t, l)
	case api.TypeRecord:
		return hasRecords(t, l)
	case api.TypeUnion:
		return hasTags(t, l)
	}
	for _, v := range l {
		if !hasPlain(t.Kind, v) {
			return false
		}
	}
	return true
}

// hasPlain tells whether v is a value of the type without parts of the kind k.
func hasPlain(k api.TypeKind, v api.Value) bool {
	switch k {
	case api.TypeAny:
		return true
	case api.TypeInt:
		return v.Kind == api.KindNum && num.IsInt(v.Num)
	}
	p, _ := plain(k) // it is one: the type was checked
	return v.Kind == p.values
}

// hasLists is hasAll of a list's type.
func hasLists(t api.Type, l []api.Value) bool {
	var within []api.Value
	for _, v := range l {
		if v.Kind != api.KindList {
			return false
		}
		within = append(within, v.List...)
	}
	return hasAll(t.List[0], within)
}

// hasRecords is hasAll of a record's type.
func hasRecords(t api.Type, l []api.Value) bool {
	within := make([][]api.Value, len(t.List))
	for _, v := range l {
		if v.Kind != api.KindRecord || !slices.Equal(v.Names, t.Names) {
			return false
		}
		for i, w := range v.List {
			within[i] = append(within[i], w)
		}
	}
	return eachHasAll(t.List, within)
}

// hasTags is hasAll of a union.
func hasTags(t api.Type, l []api.Value) bool {
	at := places(t.Names)
	within := make([][]api.Value, len(t.List))
	for _, v := range l {
		i, known := at[v.Text]
		if v.Kind != api.KindTag || !known {
			return false
		}
		within[i] = append(within[i], v.List[0])
	}
	return eachHasAll(t.List, within)
}

// eachHasAll tells whether each type has all the values at its place.
func eachHasAll(l []api.Type, within [][]api.Value) bool {
	for i, t := range l {
		if !hasAll(t, within[i]) {
			return false
		}
	}
	return true
}
