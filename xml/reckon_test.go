package xml_test

import (
	"encoding/hex"
	"regexp"
	"strconv"
	"strings"
	"unicode/utf8"

	"calamus/api"
	"calamus/num"
	"calamus/value"
)

// reckoned is what bytes are, reckoned apart from the package: all of them at once, by the chapter's words as patterns.
type reckoned struct {
	document bool
	limit    bool      // it passes one
	value    api.Value // if it is a document, and passes none
}

// noDocument is what the reckoner gives up by.
type noDocument struct{}

func reckon(b []byte) (x reckoned) {
	defer func() {
		if gave := recover(); gave != nil {
			if _, ok := gave.(noDocument); !ok {
				panic(gave)
			}
			x = reckoned{}
		}
	}()
	k := reckoner{rest: string(b)}
	v := k.spaced()
	k.want(k.rest == "")
	if k.over || len(b) > api.MaxBytes || value.Check(v) != api.OK {
		return reckoned{document: true, limit: true}
	}
	return reckoned{document: true, value: v}
}

// The chapter's words, as patterns.
var (
	characters  = regexp.MustCompile(`^(?:[^<&"\x00-\x1f]|&lt;|&amp;|&quot;|&gt;|&#x[0-9a-fA-F]{1,6};)*`)
	references  = regexp.MustCompile(`&[^;]*;`)
	floatDigits = regexp.MustCompile(`^[0-9a-f]{16}$`)
	bytesDigits = regexp.MustCompile(`^(?:[0-9a-f][0-9a-f])*$`)
)

type reckoner struct {
	rest string
	over bool // a number's text is beyond what num.Parse takes
}

func (k *reckoner) want(ok bool) {
	if !ok {
		panic(noDocument{})
	}
}

// has takes s away, if it stands there.
func (k *reckoner) has(s string) bool {
	rest, ok := strings.CutPrefix(k.rest, s)
	k.rest = rest
	return ok
}

func (k *reckoner) blanks() { k.rest = strings.TrimLeft(k.rest, " \t\n\r") }

// upTo is what stands ahead of the first end, which is taken away, too.
func (k *reckoner) upTo(end string) string {
	s, rest, ok := strings.Cut(k.rest, end)
	k.want(ok)
	k.rest = rest
	return s
}

// characters are those that stand there, up to end.
func (k *reckoner) characters(end string) string {
	s := characters.FindString(k.rest)
	k.rest = k.rest[len(s):]
	k.want(k.has(end))
	s = references.ReplaceAllStringFunc(s, func(ref string) string {
		if i := strings.Index("&lt;&gt;&amp;&quot;", ref); i >= 0 {
			return map[int]string{0: "<", 4: ">", 8: "&", 13: `"`}[i]
		}
		n, err := strconv.ParseInt(ref[len("&#x"):len(ref)-1], 16, 64)
		k.want(err == nil && utf8.ValidRune(rune(n)))
		return string(rune(n))
	})
	k.want(utf8.ValidString(s))
	return s
}

// spaced is an element with blanks around it.
func (k *reckoner) spaced() api.Value {
	k.blanks()
	v := k.element()
	k.blanks()
	return v
}

func (k *reckoner) element() api.Value {
	switch {
	case k.has("<null/>"):
		return null
	case k.has("<true/>"):
		return flag(true)
	case k.has("<false/>"):
		return flag(false)
	case k.has("<num>"):
		return k.number(k.upTo("</num>"))
	case k.has("<float>"):
		s := k.upTo("</float>")
		k.want(floatDigits.MatchString(s))
		n, _ := strconv.ParseUint(s, 16, 64)
		return float(n)
	case k.has("<text>"):
		return text(k.characters("</text>"))
	case k.has("<bytes>"):
		s := k.upTo("</bytes>")
		k.want(bytesDigits.MatchString(s))
		b, _ := hex.DecodeString(s)
		return raw(string(b))
	case k.has("<list>"):
		v := list()
		for k.blanks(); !k.has("</list>"); {
			v.List = append(v.List, k.spaced())
		}
		return v
	case k.has("<record>"):
		return k.record()
	case k.has(`<tag name="`):
		v := tag(k.characters(`">`), k.spaced())
		k.want(k.has("</tag>"))
		return v
	}
	panic(noDocument{})
}

func (k *reckoner) number(s string) api.Value {
	n, e := num.Parse(s)
	k.want(e != api.ErrNumForm)
	if e == api.ErrLimit {
		k.over = true
		return null
	}
	return number(n)
}

func (k *reckoner) record() api.Value {
	v := record("")
	seen := map[string]bool{}
	for k.blanks(); !k.has("</record>"); k.blanks() {
		k.want(k.has(`<field name="`))
		name := k.characters(`">`)
		k.want(!seen[name])
		seen[name] = true
		v.Names = append(v.Names, name)
		v.List = append(v.List, k.spaced())
		k.want(k.has("</field>"))
	}
	return v
}
