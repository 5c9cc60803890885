package json

import (
	"strings"

	"calamus/api"
	"calamus/fbits"
	"calamus/hex"
)

// wait is what has to come next in a document.
type wait int

const (
	forValue     wait = iota
	forFirst          // a list's first value, or its end
	forMore           // a `,`, or the end of the list or the record
	forFirstName      // an object's first name, or its end
	forName
	forColon
	forFloat    // its digits
	forBytes    // their digits
	forTagList  // the `[` of a tag
	forTagName  // its name
	forTagComma // the `,` behind that
	forTagEnd   // the `]` of a tag
	forBrace    // the `}` of an object that is no record
	forNothing  // the document has its value
)

// takeMark goes on by a byte that means something by itself, or by a blank, which means nothing.
func (r *Reader) takeMark(c byte) {
	switch c {
	case '"':
		r.quoted.place = inText
	case '[':
		r.openList()
	case ']':
		r.closeList()
	case '{':
		r.openObject()
	case '}':
		r.closeObject()
	case ',':
		r.takeComma()
	case ':':
		r.takeColon()
	}
}

func (r *Reader) openList() {
	switch r.wait {
	case forValue, forFirst:
		r.begin(api.Event{Kind: api.EvList})
		r.wait = forFirst
	case forTagList:
		r.wait = forTagName
	default:
		panic(api.ErrJson)
	}
}

func (r *Reader) closeList() {
	switch {
	case r.wait == forFirst, r.wait == forMore && r.inner() == api.EvList:
		r.end()
		r.endValue()
	case r.wait == forTagEnd:
		r.end()
		r.wait = forBrace
	default:
		panic(api.ErrJson)
	}
}

// openObject tells nothing yet: the first name says what it is.
func (r *Reader) openObject() {
	if r.wait != forValue && r.wait != forFirst {
		panic(api.ErrJson)
	}
	r.wait = forFirstName
}

func (r *Reader) closeObject() {
	switch {
	case r.wait == forFirstName:
		r.begin(api.Event{Kind: api.EvRecord})
		r.end()
	case r.wait == forMore && r.inner() == api.EvRecord:
		r.end()
	case r.wait != forBrace:
		panic(api.ErrJson)
	}
	r.endValue()
}

func (r *Reader) takeComma() {
	switch {
	case r.wait == forMore && r.inner() == api.EvRecord:
		r.wait = forName
	case r.wait == forMore, r.wait == forTagComma:
		r.wait = forValue
	default:
		panic(api.ErrJson)
	}
}

func (r *Reader) takeColon() {
	if r.wait != forColon {
		panic(api.ErrJson)
	}
	r.wait = r.behind
}

// takeWord goes on by null, true, false or a number.
func (r *Reader) takeWord(s string) {
	if r.wait != forValue && r.wait != forFirst {
		panic(api.ErrJson)
	}
	switch s {
	case "null":
		r.out.Tell(api.Event{Kind: api.EvNull})
	case "true", "false":
		r.out.Tell(api.Event{Kind: api.EvBool, Flag: s == "true"})
	default:
		r.out.TellNumber(s)
	}
	r.endValue()
}

// takeText goes on by a text, whatever it is there.
func (r *Reader) takeText(s string) {
	switch r.wait {
	case forValue, forFirst:
		r.out.Tell(api.Event{Kind: api.EvText, Text: s})
		r.endValue()
	case forFirstName:
		r.firstName(s)
	case forName:
		r.name(s)
	case forFloat:
		r.float(s)
	case forBytes:
		r.bytes(s)
	case forTagName:
		r.begin(api.Event{Kind: api.EvTag, Text: s})
		r.wait = forTagComma
	default:
		panic(api.ErrJson)
	}
}

// firstName tells what an object is.
func (r *Reader) firstName(s string) {
	r.wait = forColon
	switch s {
	case floatName:
		r.behind = forFloat
	case bytesName:
		r.behind = forBytes
	case tagName:
		r.behind = forTagList
	default:
		rest, cut := strings.CutPrefix(s, dollar)
		if cut && !strings.HasPrefix(rest, dollar) {
			panic(api.ErrJson)
		}
		r.begin(api.Event{Kind: api.EvRecord})
		r.name(rest)
	}
}

// name goes on by a record's name.
func (r *Reader) name(s string) {
	r.out.Tell(api.Event{Kind: api.EvName, Text: s})
	r.wait, r.behind = forColon, forValue
}

func (r *Reader) float(s string) {
	bits, e := fbits.Unhex(s)
	if e != api.OK {
		panic(api.ErrJson)
	}
	r.out.Tell(api.Event{Kind: api.EvFloat, Bits: bits})
	r.wait = forBrace
}

func (r *Reader) bytes(s string) {
	b, ok := hex.Bytes(s)
	if !ok {
		panic(api.ErrJson)
	}
	r.out.Tell(api.Event{Kind: api.EvBytes, Text: b})
	r.wait = forBrace
}

// begin tells the event by which a list, a record or a tag begins.
func (r *Reader) begin(e api.Event) {
	r.out.Tell(e)
	r.open = append(r.open, e.Kind)
}

// end tells that the innermost of them has ended.
func (r *Reader) end() {
	r.out.Tell(api.Event{Kind: api.EvEnd})
	r.open = r.open[:len(r.open)-1]
}

// inner is the kind of the innermost of them, 0 if none is open.
func (r *Reader) inner() api.EventKind {
	if len(r.open) == 0 {
		return 0
	}
	return r.open[len(r.open)-1]
}

// endValue goes on behind a whole value.
func (r *Reader) endValue() {
	switch r.inner() {
	case 0:
		r.wait = forNothing
	case api.EvTag:
		r.wait = forTagEnd
	default:
		r.wait = forMore
	}
}
