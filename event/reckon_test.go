package event_test

import (
	"slices"

	"calamus/api"
)

// found is what a list of events is.
type found int

const (
	whole found = iota // a value's events
	cut                // a beginning
	fault              // neither
)

// reckon is what l is, and the value, if it is whole: reckoned apart from Checker and Build, by going down into what begins.
func reckon(l []api.Event) (found, api.Value) {
	for _, e := range l {
		if slices.ContainsFunc(wrongOnes, func(w api.Event) bool { return w == e }) {
			return fault, api.Value{}
		}
	}
	f, v, rest := reckonValue(l)
	if f == whole && len(rest) > 0 {
		return fault, api.Value{}
	}
	return f, v
}

var wrongOnes = wrong()

func reckonValue(l []api.Event) (found, api.Value, []api.Event) {
	if len(l) == 0 {
		return cut, api.Value{}, nil
	}
	e, l := l[0], l[1:]
	switch e.Kind {
	case api.EvList:
		return reckonParts(api.Value{Kind: api.KindList}, l)
	case api.EvRecord:
		return reckonParts(api.Value{Kind: api.KindRecord}, l)
	case api.EvTag:
		return reckonTag(e.Text, l)
	case api.EvName, api.EvEnd:
		return fault, api.Value{}, nil
	case api.EvNull, api.EvBool, api.EvNum, api.EvFloat, api.EvText, api.EvBytes:
		return whole, api.Value{Kind: api.Kind(e.Kind), Flag: e.Flag, Num: e.Num, Bits: e.Bits, Text: e.Text}, l
	}
	panic("no kind of event")
}

func reckonTag(name string, l []api.Event) (found, api.Value, []api.Event) {
	f, v, l := reckonValue(l)
	switch {
	case f != whole:
		return f, api.Value{}, nil
	case len(l) == 0:
		return cut, api.Value{}, nil
	case l[0] != evEnd:
		return fault, api.Value{}, nil
	}
	return whole, tag(name, v), l[1:]
}

func reckonParts(v api.Value, l []api.Event) (found, api.Value, []api.Event) {
	for len(l) > 0 {
		if l[0] == evEnd {
			return whole, v, l[1:]
		}
		if v.Kind == api.KindRecord {
			if l[0].Kind != api.EvName || slices.Contains(v.Names, l[0].Text) {
				return fault, api.Value{}, nil
			}
			v.Names = append(v.Names, l[0].Text)
			l = l[1:]
		}
		f, w, rest := reckonValue(l)
		if f != whole {
			return f, api.Value{}, nil
		}
		v.List = append(v.List, w)
		l = rest
	}
	return cut, api.Value{}, nil
}

// opened is how many parts have begun and have not ended, of events that are a beginning.
func opened(l []api.Event) int {
	n := 0
	for _, e := range l {
		switch e.Kind {
		case api.EvList, api.EvRecord, api.EvTag:
			n++
		case api.EvEnd:
			n--
		}
	}
	return n
}
