package cbor

import (
	"calamus/api"
	"calamus/fbits"
	"calamus/num"
	"calamus/scribe"
)

// writer lays a document out.
type writer struct {
	*scribe.Scribe
}

// head writes a short head.
func (w writer) head(major byte, n uint64) {
	if n <= infoGreatest {
		w.Fixed(uint64(major)<<5|n, 1)
		return
	}
	info, width := uint64(infoByte), 1
	for n>>(8*width) > 0 {
		info, width = info+1, 2*width
	}
	w.Fixed(uint64(major)<<5|info, 1)
	w.Fixed(n, width)
}

// value writes v, which was checked.
func (w writer) value(v api.Value) {
	switch v.Kind {
	case api.KindNull:
		w.Fixed(firstNull, 1)
	case api.KindBool:
		w.flag(v.Flag)
	case api.KindNum:
		w.number(v.Num)
	case api.KindFloat:
		w.float(v.Bits)
	case api.KindText:
		w.string(majorText, v.Text)
	case api.KindBytes:
		w.string(majorBytes, v.Text)
	case api.KindList:
		w.list(v.List)
	case api.KindRecord:
		w.record(v)
	case api.KindTag:
		w.head(majorMark, markTag)
		w.head(majorList, 2)
		w.string(majorText, v.Text)
		w.value(v.List[0])
	}
}

func (w writer) flag(b bool) {
	if b {
		w.Fixed(firstTrue, 1)
	} else {
		w.Fixed(firstFalse, 1)
	}
}

func (w writer) float(b uint64) {
	width, pattern := fbits.Narrow(b)
	switch width {
	case 16:
		w.Fixed(firstFloat16, 1)
	case 32:
		w.Fixed(firstFloat32, 1)
	default:
		w.Fixed(firstFloat64, 1)
	}
	w.Fixed(pattern, width/8)
}

// string writes a text, or bytes.
func (w writer) string(major byte, s string) {
	w.head(major, uint64(len(s)))
	w.Put(s)
}

func (w writer) list(l []api.Value) {
	w.head(majorList, uint64(len(l)))
	for _, v := range l {
		w.value(v)
	}
}

func (w writer) record(v api.Value) {
	w.head(majorRecord, uint64(len(v.Names)))
	for i, name := range v.Names {
		w.string(majorText, name)
		w.value(v.List[i])
	}
}

func (w writer) number(n api.Num) {
	if n.Exp >= 0 && len(n.Digits)+n.Exp <= api.MaxDigits {
		w.whole(n)
		return
	}
	w.head(majorMark, markDecimal)
	w.head(majorList, 2)
	w.power(n.Exp)
	n.Exp = 0
	w.whole(n)
}

func (w writer) power(exp int) {
	if exp < 0 {
		w.head(majorBelow, uint64(-1-exp))
	} else {
		w.head(majorWhole, uint64(exp))
	}
}

// whole writes a whole number that has at most 40 places, so that neither call on it fails.
func (w writer) whole(n api.Num) {
	major, mark := byte(majorWhole), uint64(markBig)
	if n.Neg {
		major, mark = majorBelow, markBigBelow
		n, _ = num.Add(n, api.Num{Digits: "1"}) // n is -1 less what stands there
	}
	b, _ := num.Bytes(n)
	if len(b) <= 8 {
		w.head(major, wordOf(b))
		return
	}
	w.head(majorMark, mark)
	w.string(majorBytes, string(b))
}

// wordOf is the number of at most eight bytes, the highest first.
func wordOf(b []byte) uint64 {
	n := uint64(0)
	for _, c := range b {
		n = n<<8 | uint64(c)
	}
	return n
}
