package eval

import "calamus/api"

// weight is a value, how deep it is and how many values are in it, itself too; and so all that is within. What is built of weights is held against the limits by theirs: a few hundred steps over a few thousand elements, each with a few thousand values in it, would take long if each went through all of them. Weights share memory with one another, and with what is handed in; none is written into.
type weight struct {
	api.Value   // without its List
	within      []weight
	depth, size int
}

// weighed is the weight of a value.
func weighed(v api.Value) weight {
	var within []weight
	for _, w := range v.List {
		within = append(within, weighed(w))
	}
	v.List = nil
	return built(v, within)
}

// built lays v around what is within, or gives up, if that is beyond a limit. No step passes another limit than these two: names, and how many they are, come from the mapping or from a value, lists do not grow, and the text of a number is short.
func built(v api.Value, within []weight) weight {
	w := weight{Value: v, within: within, depth: 1, size: 1}
	for _, x := range within {
		w.depth = max(w.depth, 1+x.depth)
		w.size += x.size
	}
	if w.depth > api.MaxDepth || w.size > api.MaxSize {
		panic(api.ErrLimit)
	}
	return w
}

// whole is the value again, in new memory.
func (w weight) whole() api.Value {
	v := w.Value
	v.Names = append([]string(nil), v.Names...)
	for _, x := range w.within {
		v.List = append(v.List, x.whole())
	}
	return v
}

// want gives up, unless it is a value of that Kind.
func (w weight) want(k api.Kind) {
	if w.Kind != k {
		panic(api.ErrEvalType)
	}
}
