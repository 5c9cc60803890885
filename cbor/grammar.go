package cbor

import "calamus/api"

// wait is what has to come next in a document.
type wait int

const (
	forItem    wait = iota // one of any kind
	forElement             // a list's next item, or its end
	forName                // a record's next name, or its end
	forTagList             // the list of a tag
	forTagName
	forTagEnd // of the list, if that comes in parts
	forDecimalList
	forPower // x of a decimal
	forFactor
	forDecimalEnd // of the list, if that comes in parts
	forBig        // the bytes of a big number
	forNothing    // the document has its value
)

// part is a list, a record or a tag that has begun, and has not ended yet.
type part struct {
	kind  api.EventKind
	parts bool   // it ends by the byte firstBreak
	left  uint64 // elements that have to come, unless it comes in parts
}

// number is a big number or a decimal, as far as it has come.
type number struct {
	natural natural
	below   bool // -1 less natural is meant
	decimal bool // it is what power belongs to
	parts   bool // the decimal's list ends by the byte firstBreak
	power   int
}

// wantItem is done where an item of whatever kind begins.
func (r *Reader) wantItem() {
	if r.wait != forItem && r.wait != forElement {
		panic(api.ErrCbor)
	}
}

// scalar goes on by a value without parts.
func (r *Reader) scalar(e api.Event) {
	r.wantItem()
	r.out.Tell(e)
	r.endItem()
}

func (r *Reader) beginList(parts bool, n uint64) {
	switch {
	case r.wait != forTagList && r.wait != forDecimalList:
		r.begin(api.Event{Kind: api.EvList}, parts, n)
	case !parts && n != 2:
		panic(api.ErrCbor)
	case r.wait == forTagList:
		r.open = append(r.open, part{kind: api.EvTag, parts: parts, left: 1})
		r.wait = forTagName
	default:
		r.number.parts = parts
		r.wait = forPower
	}
}

func (r *Reader) beginRecord(parts bool, n uint64) {
	r.begin(api.Event{Kind: api.EvRecord}, parts, n)
}

// begin goes on by a list or a record of n elements.
func (r *Reader) begin(e api.Event, parts bool, n uint64) {
	r.wantItem()
	r.out.Tell(e)
	if n > api.MaxItems {
		r.out.Pass()
	}
	r.open = append(r.open, part{kind: e.Kind, parts: parts, left: n})
	r.goOn()
}

// beginTag goes on by a tag's name; its list has begun already.
func (r *Reader) beginTag(name string) {
	r.out.Tell(api.Event{Kind: api.EvTag, Text: name})
	r.wait = forItem
}

// goOn waits for what comes next in the innermost list, record or tag.
func (r *Reader) goOn() {
	p := r.open[len(r.open)-1]
	switch {
	case !p.parts && p.left == 0:
		r.end()
	case p.kind == api.EvList:
		r.wait = forElement
	case p.kind == api.EvRecord:
		r.wait = forName
	default:
		r.wait = forTagEnd
	}
}

// end tells that the innermost list, record or tag has ended.
func (r *Reader) end() {
	r.out.Tell(api.Event{Kind: api.EvEnd})
	r.open = r.open[:len(r.open)-1]
	r.endItem()
}

// endItem goes on behind a whole item.
func (r *Reader) endItem() {
	if len(r.open) == 0 {
		r.wait = forNothing
		return
	}
	r.open[len(r.open)-1].left--
	r.goOn()
}

// endParts goes on by the end of what comes in parts.
func (r *Reader) endParts() {
	switch {
	case r.row.parts:
		r.endRow()
	case r.wait == forDecimalEnd:
		r.endItem()
	case r.mayEnd() && r.open[len(r.open)-1].parts:
		r.end()
	default:
		panic(api.ErrCbor)
	}
}

// mayEnd tells whether the innermost list, record or tag may be whole.
func (r *Reader) mayEnd() bool {
	return r.wait == forElement || r.wait == forName || r.wait == forTagEnd
}

// takeMark goes on by a head that says what the item behind it means.
func (r *Reader) takeMark(n uint64) {
	if r.wait == forFactor && (n == markBig || n == markBigBelow) {
		r.number.below = n == markBigBelow
		r.wait = forBig
		return
	}
	r.wantItem()
	switch n {
	case markBig, markBigBelow:
		r.number = number{below: n == markBigBelow}
		r.wait = forBig
	case markDecimal:
		r.number = number{decimal: true}
		r.wait = forDecimalList
	case markTag:
		r.wait = forTagList
	default:
		panic(api.ErrCbor)
	}
}

// takeWhole goes on by a whole number, whatever it is there.
func (r *Reader) takeWhole(n uint64, below bool) {
	switch r.wait {
	case forPower:
		r.number.power = powerOf(n, below)
		r.wait = forFactor
		return
	case forFactor:
	default:
		r.wantItem()
	}
	r.number.natural, r.number.below = naturalOf(n), below
	r.takeNumber()
}

// takeNumber goes on by a number that has come; null stands for one that is beyond the limits, which is not told.
func (r *Reader) takeNumber() {
	told := api.Event{Kind: api.EvNull}
	n, e := r.number.value()
	if e == api.OK {
		told = api.Event{Kind: api.EvNum, Num: n}
	} else {
		r.out.Pass()
	}
	r.out.Tell(told)
	inParts := r.number.parts
	r.number = number{}
	if inParts {
		r.wait = forDecimalEnd
	} else {
		r.endItem()
	}
}

// value is the number, or api.ErrLimit.
func (n *number) value() (api.Num, api.Errno) {
	made, e := n.natural.number(n.below)
	if e != api.OK || !n.decimal {
		return made, e
	}
	return shifted(made, n.power)
}
