package types

import (
	"slices"

	"calamus/api"
)

// Join is P11.4.
func Join(a, b api.Type) (api.Type, api.Errno) {
	if e := checkBoth(a, b); e != api.OK {
		return api.Type{}, e
	}
	return copied(join(a, b)), api.OK
}

// join is Join of two types; what it answers may share memory with them.
func join(a, b api.Type) api.Type {
	if isPart(a, b) {
		return b
	}
	if isPart(b, a) {
		return a
	}
	if a.Kind == api.TypeUnion && b.Kind == api.TypeUnion {
		if u, ok := united(a, b); ok {
			return u
		}
	}
	return api.Type{Kind: api.TypeAny}
}

// united is the union of a's names and b's, if there is one within the limits.
func united(a, b api.Type) (api.Type, bool) {
	u := api.Type{Kind: api.TypeUnion, Names: slices.Clone(a.Names), List: slices.Clone(a.List)}
	at := places(a.Names)
	for i, name := range b.Names {
		k, both := at[name]
		if !both {
			u.Names = append(u.Names, name)
			u.List = append(u.List, b.List[i])
			continue
		}
		t, ok := wider(a.List[k], b.List[i])
		if !ok {
			return api.Type{}, false
		}
		u.List[k] = t
	}
	return u, Check(u) == api.OK
}

// wider is the one of a and b that the other is part of, if it is: a, if both are.
func wider(a, b api.Type) (api.Type, bool) {
	if isPart(b, a) {
		return a, true
	}
	return b, isPart(a, b)
}

// copied is t in new memory.
func copied(t api.Type) api.Type {
	c := api.Type{Kind: t.Kind, Names: append([]string(nil), t.Names...)}
	for _, u := range t.List {
		c.List = append(c.List, copied(u))
	}
	return c
}
