package eval

import (
	"strconv"

	"calamus/api"
	"calamus/num"
)

// toText makes a text of a bool, a number or a text.
func toText(v weight) weight {
	switch v.Kind {
	case api.KindBool:
		return text(strconv.FormatBool(v.Flag))
	case api.KindNum:
		s, _ := num.Print(v.Num) // it is a number
		return text(s)
	}
	v.want(api.KindText)
	return v
}

// toNum makes a number of a number or a text.
func toNum(v weight) weight {
	if v.Kind == api.KindNum {
		return v
	}
	v.want(api.KindText)
	return number(num.Parse(v.Text))
}

// sum adds up a list of numbers from the front.
func sum(v weight) weight {
	v.want(api.KindList)
	all := number(num.Of(false, nil))
	for _, x := range v.within {
		x.want(api.KindNum)
		all = number(num.Add(all.Num, x.Num))
	}
	return all
}

// count tells how many elements a list has.
func count(v weight) weight {
	v.want(api.KindList)
	return number(num.Parse(strconv.Itoa(len(v.within))))
}

func text(s string) weight {
	return built(api.Value{Kind: api.KindText, Text: s}, nil)
}

// number is the one that a call of num answers, unless it refuses it.
func number(n api.Num, bad api.Errno) weight {
	if bad != api.OK {
		panic(api.ErrEvalCoerce)
	}
	return built(api.Value{Kind: api.KindNum, Num: n}, nil)
}
