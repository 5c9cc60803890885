package xml

import "calamus/api"

// The marks, as they stand in documents. None of them begins with another one.
const (
	markNull      = "<null/>"
	markTrue      = "<true/>"
	markFalse     = "<false/>"
	markNum       = "<num>"
	markNumEnd    = "</num>"
	markFloat     = "<float>"
	markFloatEnd  = "</float>"
	markText      = "<text>"
	markTextEnd   = "</text>"
	markBytes     = "<bytes>"
	markBytesEnd  = "</bytes>"
	markList      = "<list>"
	markListEnd   = "</list>"
	markRecord    = "<record>"
	markRecordEnd = "</record>"
	markField     = `<field name="`
	markFieldEnd  = "</field>"
	markTag       = `<tag name="`
	markTagEnd    = "</tag>"
	markNameEnd   = `">`
)

const longestMark = len(markField)

// mark is what a mark means: one of the types below, by the kind of event that is told of what it begins or ends, a field's being EvName.
type mark any

type (
	scalar    api.Event     // a whole element
	rowBegin  api.EventKind // characters or digits stand behind it
	rowEnd    api.EventKind
	partBegin api.EventKind // of a list or a record: elements or fields stand behind it
	nameBegin api.EventKind // of a field or a tag: its name stands behind it
	nameEnd   struct{}      // of any of the two: its element stands behind it
	partEnd   api.EventKind // of a list, a record, a field or a tag
)

// markOf is what s means; nil, if it is no mark.
func markOf(s string) mark {
	switch s {
	case markNull:
		return scalar{Kind: api.EvNull}
	case markTrue, markFalse:
		return scalar{Kind: api.EvBool, Flag: s == markTrue}
	case markNum:
		return rowBegin(api.EvNum)
	case markNumEnd:
		return rowEnd(api.EvNum)
	case markFloat:
		return rowBegin(api.EvFloat)
	case markFloatEnd:
		return rowEnd(api.EvFloat)
	case markText:
		return rowBegin(api.EvText)
	case markTextEnd:
		return rowEnd(api.EvText)
	case markBytes:
		return rowBegin(api.EvBytes)
	case markBytesEnd:
		return rowEnd(api.EvBytes)
	case markList:
		return partBegin(api.EvList)
	case markListEnd:
		return partEnd(api.EvList)
	case markRecord:
		return partBegin(api.EvRecord)
	case markRecordEnd:
		return partEnd(api.EvRecord)
	case markField:
		return nameBegin(api.EvName)
	case markFieldEnd:
		return partEnd(api.EvName)
	case markTag:
		return nameBegin(api.EvTag)
	case markTagEnd:
		return partEnd(api.EvTag)
	case markNameEnd:
		return nameEnd{}
	}
	return nil
}
