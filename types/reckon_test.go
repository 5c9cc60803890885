package types_test

import (
	"slices"

	"calamus/api"
)

// What types answers is reckoned here once more, as slowly and as near to the document's words as it goes.

// reckonHas tells whether v is one of t's values (DOC.md, Words).
func reckonHas(t api.Type, v api.Value) bool {
	all := t.Kind == api.TypeAny
	kinds := t.Kind == api.TypeNull && v.Kind == api.KindNull ||
		t.Kind == api.TypeBool && v.Kind == api.KindBool ||
		t.Kind == api.TypeNum && v.Kind == api.KindNum ||
		t.Kind == api.TypeFloat && v.Kind == api.KindFloat ||
		t.Kind == api.TypeText && v.Kind == api.KindText ||
		t.Kind == api.TypeBytes && v.Kind == api.KindBytes
	whole := t.Kind == api.TypeInt && v.Kind == api.KindNum && v.Num.Exp >= 0
	return all || kinds || whole || reckonList(t, v) || reckonRecord(t, v) || reckonTag(t, v)
}

func reckonList(t api.Type, v api.Value) bool {
	if t.Kind != api.TypeList || v.Kind != api.KindList {
		return false
	}
	for _, w := range v.List {
		if !reckonHas(t.List[0], w) {
			return false
		}
	}
	return true
}

func reckonRecord(t api.Type, v api.Value) bool {
	if t.Kind != api.TypeRecord || v.Kind != api.KindRecord || len(t.Names) != len(v.Names) {
		return false
	}
	for i := range t.Names {
		if t.Names[i] != v.Names[i] || !reckonHas(t.List[i], v.List[i]) {
			return false
		}
	}
	return true
}

func reckonTag(t api.Type, v api.Value) bool {
	if t.Kind != api.TypeUnion || v.Kind != api.KindTag {
		return false
	}
	i := slices.Index(t.Names, v.Text)
	return i >= 0 && reckonHas(t.List[i], v.List[0])
}

// reckonPart tells whether a is part of b (chapter 11, Words).
func reckonPart(a, b api.Type) bool {
	is := func(t api.Type, k api.TypeKind) bool { return t.Kind == k }
	bare := func(t api.Type) bool { return len(t.Names) == 0 && len(t.List) == 0 }
	switch {
	case is(b, api.TypeAny):
		return true
	case a.Kind == b.Kind && bare(a) && bare(b):
		return true
	case is(a, api.TypeInt) && is(b, api.TypeNum):
		return true
	case is(a, api.TypeList) && is(b, api.TypeList) && reckonPart(a.List[0], b.List[0]):
		return true
	case is(a, api.TypeRecord) && is(b, api.TypeRecord):
		return reckonPartRecord(a, b)
	case is(a, api.TypeUnion) && is(b, api.TypeUnion):
		return reckonPartUnion(a, b)
	}
	return false
}

func reckonPartRecord(a, b api.Type) bool {
	if len(a.Names) != len(b.Names) {
		return false
	}
	for i := range a.Names {
		if a.Names[i] != b.Names[i] || !reckonPart(a.List[i], b.List[i]) {
			return false
		}
	}
	return true
}

func reckonPartUnion(a, b api.Type) bool {
	for i, name := range a.Names {
		k := slices.Index(b.Names, name)
		if k < 0 || !reckonPart(a.List[i], b.List[k]) {
			return false
		}
	}
	return true
}

// reckonJoin is the Join of a and b (P11.4).
func reckonJoin(a, b api.Type) api.Type {
	if reckonPart(a, b) {
		return b
	}
	if reckonPart(b, a) {
		return a
	}
	if a.Kind != api.TypeUnion || b.Kind != api.TypeUnion {
		return anyType
	}
	u := kind(api.TypeUnion)
	for i, name := range a.Names {
		t := a.List[i]
		if k := slices.Index(b.Names, name); k >= 0 {
			up, down := reckonPart(t, b.List[k]), reckonPart(b.List[k], t)
			if !up && !down {
				return anyType
			}
			if !down {
				t = b.List[k]
			}
		}
		u.Names, u.List = append(u.Names, name), append(u.List, t)
	}
	for i, name := range b.Names {
		if !slices.Contains(a.Names, name) {
			u.Names, u.List = append(u.Names, name), append(u.List, b.List[i])
		}
	}
	if len(u.Names) > api.MaxItems || countTypes(u) > api.MaxSize {
		return anyType // names and depths are those of a and b
	}
	return u
}
