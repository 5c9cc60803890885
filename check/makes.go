package check

import (
	"slices"

	"calamus/api"
	"calamus/num"
	"calamus/types"
)

// plain makes the type of a kind without parts.
func plain(k api.TypeKind) func(s step) api.Type {
	return func(step) api.Type { return api.Type{Kind: k} }
}

// same makes what comes.
func same(s step) api.Type { return s.in }

// ofName makes what a record has under the name of an OpGet.
func ofName(s step) api.Type {
	return s.in.List[slices.Index(s.in.Names, s.expr.Name)]
}

// element makes what a list is of.
func element(s step) api.Type { return s.in.List[0] }

// record makes that of an OpRecord.
func record(s step) api.Type {
	return api.Type{Kind: api.TypeRecord, Names: s.expr.Names, List: made(s.within)}
}

// list makes that of an OpMap.
func list(s step) api.Type {
	return api.Type{Kind: api.TypeList, List: made(s.within)}
}

// union makes that of an OpTag.
func union(s step) api.Type {
	return api.Type{Kind: api.TypeUnion, Names: []string{s.expr.Name}, List: []api.Type{s.in}}
}

// joined makes the Join of what the branches make, from the front.
func joined(s step) api.Type {
	if len(s.within) == 0 {
		return api.Type{Kind: api.TypeUnion}
	}
	t := s.within[0].makes
	for _, x := range s.within[1:] {
		t, _ = types.Join(t, x.makes) // both are types, so nothing is refused
	}
	return t
}

// ofValue makes the type of an OpConst's Value.
func ofValue(s step) api.Type {
	v := s.expr.Value
	switch v.Kind {
	case api.KindNull:
		return api.Type{Kind: api.TypeNull}
	case api.KindBool:
		return api.Type{Kind: api.TypeBool}
	case api.KindText:
		return api.Type{Kind: api.TypeText}
	}
	if num.IsInt(v.Num) {
		return api.Type{Kind: api.TypeInt}
	}
	return api.Type{Kind: api.TypeNum}
}

// number makes that of an OpToNum.
func number(s step) api.Type {
	if s.in.Kind == api.TypeText {
		return api.Type{Kind: api.TypeNum}
	}
	return s.in
}

// last makes what the last one of an OpPipe makes.
func last(s step) api.Type { return s.within[len(s.within)-1].makes }

// made are the types that steps make.
func made(steps []step) []api.Type {
	var l []api.Type
	for _, s := range steps {
		l = append(l, s.makes)
	}
	return l
}
