package code

import (
	"slices"

	"calamus/api"
	"calamus/lang"
)

// isInOrder tells whether the nodes stand as a program's do: right behind each its first kid, behind each kid and all within it the next one, and all of them within node 0.
func isInOrder(l []api.Node) bool {
	ends := make([]int, len(l)) // of each node: where it ends, with all within it
	for i := len(l) - 1; i >= 0; i-- {
		end := i + 1
		for _, kid := range l[i].Kids {
			if kid != end || kid >= len(l) {
				return false
			}
			end = ends[kid]
		}
		ends[i] = end
	}
	return len(l) > 0 && ends[0] == len(l)
}

// isNone tells whether n is the node of no mapping, whatever its Kids are nodes of.
func isNone(n api.Node) bool {
	kids := slices.Repeat([]api.Expr{{Op: api.OpId}}, len(n.Kids))
	return lang.Check(api.Expr{Op: n.Op, Name: n.Name, Names: n.Names, List: kids, Value: n.Value}) == api.ErrLangForm
}

// goesToMany tells whether what comes to n goes to two Kids or more, and so must be held; of an OpCase's Kids one takes it, of an OpPipe's the first.
func goesToMany(n api.Node) bool { return n.Op == api.OpRecord && len(n.Kids) >= 2 }

// mappingAt is the mapping whose node is the one at that place.
func mappingAt(l []api.Node, at int) api.Expr {
	n := l[at]
	e := api.Expr{Op: n.Op, Name: n.Name, Names: renewed(n.Names), Value: bare(n.Value)}
	for _, kid := range n.Kids {
		e.List = append(e.List, mappingAt(l, kid))
	}
	return e
}

// nodeOf is a mapping's node, but for its Kids.
func nodeOf(e api.Expr) api.Node {
	return api.Node{Op: e.Op, Name: e.Name, Names: renewed(e.Names), Value: bare(e.Value)}
}

// renewed are the same names in new memory, so that nothing of what is handed in is kept.
func renewed(names []string) []string { return append([]string(nil), names...) }

// bare is a mapping's Value without its lists, for the same: there is nothing in them.
func bare(v api.Value) api.Value {
	v.Names, v.List = nil, nil
	return v
}
