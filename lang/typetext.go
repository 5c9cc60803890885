package lang

import "calamus/api"

// plainTypes are the words of types without parts, each in its Kind's place.
var plainTypes = [...]string{api.TypeAny: "any", api.TypeNull: "null", api.TypeBool: "bool", api.TypeNum: "num", api.TypeInt: "int", api.TypeFloat: "float", api.TypeText: "text", api.TypeBytes: "bytes"}

// typeOf takes a type.
func typeOf(l left) api.Type {
	t := l.take()
	switch own(t) {
	case "list":
		l.want("(")
		element := typeOf(l)
		l.want(")")
		return api.Type{Kind: api.TypeList, List: []api.Type{element}}
	case "record":
		return fields(l, api.TypeRecord)
	case "union":
		return fields(l, api.TypeUnion)
	}
	for kind, word := range plainTypes {
		if word != "" && word == own(t) {
			return api.Type{Kind: api.TypeKind(kind)}
		}
	}
	panic(wrong(t.At))
}

// fields takes what stands behind `record` or `union`.
func fields(l left, kind api.TypeKind) api.Type {
	l.want("{")
	names, list := named(l, ":", typeOf)
	return api.Type{Kind: kind, Names: names, List: list}
}

// typeTokens are those of a type.
func typeTokens(t api.Type) []api.Token {
	switch t.Kind {
	case api.TypeList:
		return append([]api.Token{wordToken("list")}, between("(", typeTokens(t.List[0]), ")")...)
	case api.TypeRecord:
		return append([]api.Token{wordToken("record")}, namedTokens(t.Names, ":", t.List, typeTokens)...)
	case api.TypeUnion:
		return append([]api.Token{wordToken("union")}, namedTokens(t.Names, ":", t.List, typeTokens)...)
	}
	return []api.Token{wordToken(plainTypes[t.Kind])}
}
