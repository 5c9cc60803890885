package check

import (
	"slices"

	"calamus/api"
)

// allSafe asks whether all within are safe.
func allSafe(s step) bool {
	return !slices.ContainsFunc(s.within, func(x step) bool { return !x.safe })
}

// allApart asks whether all within are apart.
func allApart(s step) bool { return areApart(s.within) }

func areApart(steps []step) bool {
	return !slices.ContainsFunc(steps, func(s step) bool { return !s.apart })
}

// hasOneName asks whether an OpGet leaves nothing of the record behind.
func hasOneName(s step) bool { return len(s.in.Names) == 1 }

// isRecordApart asks it of an OpRecord: one mapping keeps all that comes, or each element of a record that comes is kept by one.
func isRecordApart(s step) bool {
	if slices.ContainsFunc(s.within, func(x step) bool { return x.apart }) {
		return true
	}
	return s.in.Kind == api.TypeRecord && !slices.ContainsFunc(s.in.Names, func(name string) bool {
		return !slices.ContainsFunc(s.within, func(x step) bool { return keeps(x, name) })
	})
}

// keeps tells whether s takes the element of that name out of a record, and makes no two of its values into one.
func keeps(s step, name string) bool {
	if s.expr.Op == api.OpPipe {
		return isGet(s.expr.List[0], name) && areApart(s.within[1:])
	}
	return isGet(s.expr, name)
}

func isGet(e api.Expr, name string) bool { return e.Op == api.OpGet && e.Name == name }

// areBranchesApart asks it of an OpCase: by its name, what a branch makes tells which branch it was.
func areBranchesApart(s step) bool {
	seen := map[string]struct{}{}
	for _, x := range s.within {
		if !x.apart || x.makes.Kind != api.TypeUnion {
			return false
		}
		for _, name := range x.makes.Names {
			if _, twice := seen[name]; twice {
				return false
			}
			seen[name] = struct{}{}
		}
	}
	return true
}
