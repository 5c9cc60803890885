package pack

import (
	"strings"

	"calamus/api"
)

// wait is what has to come next in a document.
type wait int

const (
	forItem      wait = iota // one of any kind
	forFirstName             // a record's, which says whether it is a tag
	forName
	forTagList // the list of a tag
	forTagName
	forNothing // the document has its value
)

// part is a list, a record or a tag that has begun, and has not ended yet.
type part struct {
	kind api.EventKind
	left uint64 // items, or pairs, that have to come
}

// wantItem is done where an item is a value, and no name.
func (r *Reader) wantItem() {
	if r.wait != forItem {
		panic(api.ErrPack)
	}
}

// scalar goes on by a value without parts.
func (r *Reader) scalar(e api.Event) {
	r.wantItem()
	r.out.Tell(e)
	r.endItem()
}

// takeNumber goes on by a number, as its text.
func (r *Reader) takeNumber(s string) {
	r.wantItem()
	r.out.TellNumber(s)
	r.endItem()
}

// beginList goes on by the head of a list of n items.
func (r *Reader) beginList(n uint64) {
	if r.wait == forTagList && n == 2 {
		r.wait = forTagName
		return
	}
	r.wantItem()
	r.out.Tell(api.Event{Kind: api.EvList})
	if n == 0 {
		r.end()
		return
	}
	r.begin(api.EvList, n)
}

// beginRecord goes on by the head of a record of n pairs. Only its first name says whether it is a tag, so that nothing is told yet.
func (r *Reader) beginRecord(n uint64) {
	r.wantItem()
	if n == 0 {
		r.out.Tell(api.Event{Kind: api.EvRecord})
		r.end()
		return
	}
	r.begin(api.EvRecord, n)
	r.wait = forFirstName
}

// begin opens a list or a record of n elements, of which there is one at least.
func (r *Reader) begin(kind api.EventKind, n uint64) {
	if n > api.MaxItems {
		r.out.Pass()
	}
	r.open = append(r.open, part{kind: kind, left: n})
}

// firstName goes on by a record's first name.
func (r *Reader) firstName(s string) {
	if s == tagName {
		r.openTag()
		return
	}
	rest, cut := strings.CutPrefix(s, dollar)
	if cut && !strings.HasPrefix(rest, dollar) {
		panic(api.ErrPack)
	}
	r.out.Tell(api.Event{Kind: api.EvRecord})
	r.name(rest)
}

// name goes on by a record's name.
func (r *Reader) name(s string) {
	r.out.Tell(api.Event{Kind: api.EvName, Text: s})
	r.wait = forItem
}

// openTag makes a tag of the innermost record.
func (r *Reader) openTag() {
	in := r.inner()
	if in.left != 1 {
		panic(api.ErrPack)
	}
	in.kind = api.EvTag
	r.wait = forTagList
}

// beginTag goes on by a tag's name.
func (r *Reader) beginTag(s string) {
	r.out.Tell(api.Event{Kind: api.EvTag, Text: s})
	r.wait = forItem
}

// inner is the list, record or tag that has begun last, nil if none is open.
func (r *Reader) inner() *part {
	if len(r.open) == 0 {
		return nil
	}
	return &r.open[len(r.open)-1]
}

// end goes on by the end of a list, a record or a tag, which is not open any more.
func (r *Reader) end() {
	r.out.Tell(api.Event{Kind: api.EvEnd})
	r.endItem()
}

// endItem goes on behind a whole item.
func (r *Reader) endItem() {
	in := r.inner()
	if in == nil {
		r.wait = forNothing
		return
	}
	in.left--
	switch {
	case in.left == 0:
		r.open = r.open[:len(r.open)-1]
		r.end()
	case in.kind == api.EvRecord:
		r.wait = forName
	default:
		r.wait = forItem
	}
}
