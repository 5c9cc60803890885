package eval

import (
	"slices"

	"calamus/api"
)

// step makes something of a value, or gives up by a panic with an api.Errno.
type step func(v weight) weight

// stepOf is what a mapping does.
func stepOf(e api.Expr) step {
	switch e.Op {
	case api.OpGet:
		return get(e.Name)
	case api.OpRecord:
		return record(e.Names, stepsOf(e.List))
	case api.OpMap:
		return onEach(stepOf(e.List[0]))
	case api.OpTag:
		return tag(e.Name)
	case api.OpCase:
		return choose(e.Names, stepsOf(e.List))
	case api.OpConst:
		return constant(e.Value)
	case api.OpToText:
		return toText
	case api.OpToNum:
		return toNum
	case api.OpSum:
		return sum
	case api.OpCount:
		return count
	case api.OpPipe:
		return inTurn(stepsOf(e.List))
	}
	return same
}

func stepsOf(l []api.Expr) []step {
	var steps []step
	for _, e := range l {
		steps = append(steps, stepOf(e))
	}
	return steps
}

// same makes of a value itself.
func same(v weight) weight { return v }

// get takes an element out of a record.
func get(name string) step {
	return func(v weight) weight {
		v.want(api.KindRecord)
		return v.within[place(v.Names, name)]
	}
}

// record makes one, each element by a step.
func record(names []string, steps []step) step {
	return func(v weight) weight {
		var within []weight
		for _, do := range steps {
			within = append(within, do(v))
		}
		return built(api.Value{Kind: api.KindRecord, Names: names}, within)
	}
}

// onEach goes through a list.
func onEach(do step) step {
	return func(v weight) weight {
		v.want(api.KindList)
		var within []weight
		for _, x := range v.within {
			within = append(within, do(x))
		}
		return built(api.Value{Kind: api.KindList}, within)
	}
}

// tag puts one round a value.
func tag(name string) step {
	return func(v weight) weight {
		return built(api.Value{Kind: api.KindTag, Text: name}, []weight{v})
	}
}

// choose goes on by a tag's name, with what is in it.
func choose(names []string, steps []step) step {
	return func(v weight) weight {
		v.want(api.KindTag)
		do := steps[place(names, v.Text)]
		return do(v.within[0])
	}
}

// constant makes always the same.
func constant(v api.Value) step {
	made := weighed(v)
	return func(weight) weight { return made }
}

// inTurn does steps one behind the other.
func inTurn(steps []step) step {
	return func(v weight) weight {
		for _, do := range steps {
			v = do(v)
		}
		return v
	}
}

// place is where a name stands among others; it gives up, if it does not.
func place(names []string, name string) int {
	i := slices.Index(names, name)
	if i < 0 {
		panic(api.ErrEvalType)
	}
	return i
}
