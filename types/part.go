package types

import (
	"slices"

	"calamus/api"
)

// Sub is P11.3.
func Sub(a, b api.Type) (bool, api.Errno) {
	if e := checkBoth(a, b); e != api.OK {
		return false, e
	}
	return isPart(a, b), api.OK
}

// isPart tells whether a is part of b; both are types.
func isPart(a, b api.Type) bool {
	switch {
	case b.Kind == api.TypeAny:
		return true
	case a.Kind == api.TypeInt && b.Kind == api.TypeNum:
		return true
	case a.Kind != b.Kind:
		return false
	case a.Kind == api.TypeUnion:
		return isPartByName(a, b)
	}
	return isPartByPlace(a, b)
}

// isPartByPlace is isPart of two lists, two records, or two types of one kind without parts.
func isPartByPlace(a, b api.Type) bool {
	return slices.Equal(a.Names, b.Names) && slices.EqualFunc(a.List, b.List, isPart)
}

// isPartByName is isPart of two unions.
func isPartByName(a, b api.Type) bool {
	at := places(b.Names)
	for i, name := range a.Names {
		k, known := at[name]
		if !known || !isPart(a.List[i], b.List[k]) {
			return false
		}
	}
	return true
}
