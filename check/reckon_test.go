package check_test

import (
	"math/rand"
	"slices"
	"testing"

	"calamus/api"
	"calamus/check"
	"calamus/lang"
	"calamus/types"
)

// What Infer answers is reckoned here once more, column by column of the chapter's table: each goes through the mapping anew.

// reckonMakes is what e makes of t (the columns fits and makes), or the first error.
func reckonMakes(t api.Type, e api.Expr) (api.Type, api.Errno) {
	made, bad := reckonUnbound(t, e)
	if bad == api.OK && types.Check(made) != api.OK {
		return api.Type{}, api.ErrLimit
	}
	return made, bad
}

func reckonUnbound(t api.Type, e api.Expr) (api.Type, api.Errno) {
	numeric := func(t api.Type) bool { return t.Kind == api.TypeNum || t.Kind == api.TypeInt }
	switch {
	case e.Op == api.OpId:
		return t, api.OK
	case e.Op == api.OpGet && t.Kind == api.TypeRecord:
		for i, name := range t.Names {
			if name == e.Name {
				return t.List[i], api.OK
			}
		}
	case e.Op == api.OpTag:
		return api.Type{Kind: api.TypeUnion, Names: []string{e.Name}, List: []api.Type{t}}, api.OK
	case e.Op == api.OpConst:
		k := []api.TypeKind{api.KindNull: api.TypeNull, api.KindBool: api.TypeBool, api.KindNum: api.TypeNum, api.KindText: api.TypeText}[e.Value.Kind]
		if k == api.TypeNum && e.Value.Num.Exp >= 0 {
			k = api.TypeInt
		}
		return kind(k), api.OK
	case e.Op == api.OpToText && (numeric(t) || t.Kind == api.TypeBool || t.Kind == api.TypeText):
		return textType, api.OK
	case e.Op == api.OpToNum && numeric(t):
		return t, api.OK
	case e.Op == api.OpToNum && t.Kind == api.TypeText:
		return numType, api.OK
	case e.Op == api.OpSum && t.Kind == api.TypeList && numeric(t.List[0]):
		return t.List[0], api.OK
	case e.Op == api.OpCount && t.Kind == api.TypeList:
		return intType, api.OK
	default:
		return reckonParts(t, e)
	}
	return api.Type{}, api.ErrCheckType
}

// reckonParts is the same of the Ops that have mappings within.
func reckonParts(t api.Type, e api.Expr) (api.Type, api.Errno) {
	switch {
	case e.Op == api.OpRecord:
		made := api.Type{Kind: api.TypeRecord, Names: e.Names}
		for _, x := range e.List {
			u, bad := reckonMakes(t, x)
			if bad != api.OK {
				return u, bad
			}
			made.List = append(made.List, u)
		}
		return made, api.OK
	case e.Op == api.OpMap && t.Kind == api.TypeList:
		u, bad := reckonMakes(t.List[0], e.List[0])
		if bad != api.OK {
			return u, bad
		}
		return listOf(u), api.OK
	case e.Op == api.OpPipe:
		for _, x := range e.List {
			u, bad := reckonMakes(t, x)
			if bad != api.OK {
				return u, bad
			}
			t = u
		}
		return t, api.OK
	case e.Op == api.OpCase && t.Kind == api.TypeUnion:
		return reckonCase(t, e)
	}
	return api.Type{}, api.ErrCheckType
}

func reckonCase(t api.Type, e api.Expr) (api.Type, api.Errno) {
	for _, name := range t.Names {
		if branch(e, name) == nil {
			return api.Type{}, api.ErrCheckType
		}
	}
	var l []api.Type
	for i, name := range t.Names {
		u, bad := reckonMakes(t.List[i], *branch(e, name))
		if bad != api.OK {
			return u, bad
		}
		l = append(l, u)
	}
	if len(l) == 0 {
		return unionOf(""), api.OK
	}
	for len(l) > 1 {
		u, _ := types.Join(l[0], l[1])
		l = append([]api.Type{u}, l[2:]...)
	}
	return l[0], api.OK
}

// branch is the mapping of a name in an OpCase, if there is one.
func branch(e api.Expr, name string) *api.Expr {
	for i := range e.Names {
		if e.Names[i] == name {
			return &e.List[i]
		}
	}
	return nil
}

// at is a mapping and the type that comes to it.
type at struct {
	t api.Type
	e api.Expr
}

// parts are the mappings within e at the types that come to them, if e fits t.
func parts(t api.Type, e api.Expr) []at {
	var l []at
	switch e.Op {
	case api.OpRecord:
		for _, x := range e.List {
			l = append(l, at{t, x})
		}
	case api.OpMap:
		l = append(l, at{t.List[0], e.List[0]})
	case api.OpCase:
		for i, name := range t.Names {
			l = append(l, at{t.List[i], *branch(e, name)})
		}
	case api.OpPipe:
		for _, x := range e.List {
			l = append(l, at{t, x})
			t, _ = reckonMakes(t, x)
		}
	}
	return l
}

func all(l []at, is func(t api.Type, e api.Expr) bool) bool {
	return !slices.ContainsFunc(l, func(x at) bool { return !is(x.t, x.e) })
}

// reckonSafe tells whether e is safe at t, which it fits.
func reckonSafe(t api.Type, e api.Expr) bool {
	if e.Op == api.OpSum || e.Op == api.OpToNum && t.Kind == api.TypeText {
		return false
	}
	return all(parts(t, e), reckonSafe)
}

// reckonApart tells whether e is apart at t, which it fits.
func reckonApart(t api.Type, e api.Expr) bool {
	switch e.Op {
	case api.OpGet:
		return len(t.Names) < 2
	case api.OpRecord:
		return reckonRecordApart(t, e)
	case api.OpCase:
		return reckonCaseApart(t, e)
	case api.OpConst:
		return t.Kind == api.TypeNull
	case api.OpToNum:
		return t.Kind != api.TypeText
	case api.OpSum, api.OpCount:
		return false
	}
	return all(parts(t, e), reckonApart)
}

func reckonRecordApart(t api.Type, e api.Expr) bool {
	for _, x := range e.List {
		if reckonApart(t, x) {
			return true
		}
	}
	if t.Kind != api.TypeRecord {
		return false
	}
	kept := map[string]bool{}
	for _, x := range e.List {
		if x.Op == api.OpGet {
			kept[x.Name] = true
		}
		if x.Op == api.OpPipe && x.List[0].Op == api.OpGet && all(parts(t, x)[1:], reckonApart) {
			kept[x.List[0].Name] = true
		}
	}
	for _, name := range t.Names {
		if !kept[name] {
			return false
		}
	}
	return true
}

func reckonCaseApart(t api.Type, e api.Expr) bool {
	l := parts(t, e)
	if !all(l, reckonApart) {
		return false
	}
	for i, x := range l {
		made, _ := reckonMakes(x.t, x.e)
		if made.Kind != api.TypeUnion {
			return false
		}
		for _, y := range l[:i] {
			other, _ := reckonMakes(y.t, y.e)
			for _, name := range made.Names {
				if slices.Contains(other.Names, name) {
					return false
				}
			}
		}
	}
	return true
}

// ask holds Infer's answer of whatever structs against what is reckoned, and tells its error.
func ask(t *testing.T, x api.Type, e api.Expr) api.Errno {
	t.Helper()
	if bad := types.Check(x); bad != api.OK {
		wantRefused(t, x, e, bad)
		return bad
	}
	if bad := lang.Check(e); bad != api.OK {
		wantRefused(t, x, e, bad)
		return bad
	}
	made, bad := reckonMakes(x, e)
	if bad != api.OK {
		wantRefused(t, x, e, bad)
		return bad
	}
	wantMade(t, x, e, made, reckonSafe(x, e) && reckonApart(x, e))
	return api.OK
}

// leaves are mappings of all Ops that have nothing within, or need not.
func leaves() []api.Expr {
	return []api.Expr{id, toText, toNum, sum, count, get("a"), get("b"), tag("a"), tag("b"), constant(null), constant(number("5", -1)), constant(text("1")), record(""), cases("")}
}

// around are all mappings round one mapping, with the names a and b.
func around(e api.Expr) []api.Expr {
	return []api.Expr{mapOf(e), record("a", e), record("b", e), cases("a", e), cases("b", e)}
}

// smallExprs are all mappings of leaves, of one leaf with something round it, and of two leaves.
func smallExprs() []api.Expr {
	l := leaves()
	var small []api.Expr
	small = append(small, l...)
	for _, e := range l {
		small = append(small, around(e)...)
		for _, f := range l {
			small = append(small, pipe(e, f), record("a b", e, f), cases("a b", e, f), cases("b a", e, f))
		}
	}
	return small
}

// smallTypes are all types of up to two levels, with the names a and b.
func smallTypes() []api.Type {
	low := append(plainTypes(), recordOf(""), unionOf(""))
	small := slices.Clone(low)
	for _, t := range low {
		small = append(small, listOf(t), recordOf("a", t), recordOf("b", t), unionOf("a", t), unionOf("b", t))
		for _, u := range low {
			small = append(small, recordOf("a b", t, u), unionOf("a b", t, u))
		}
	}
	return small
}

// deeperTypes are types of three levels.
func deeperTypes() []api.Type {
	var l []api.Type
	for _, t := range []api.Type{listOf(intType), listOf(textType), recordOf("a", nullType), recordOf("a b", intType, textType), unionOf("a", intType), unionOf("a b", nullType, intType), unionOf("b", textType)} {
		l = append(l, listOf(t), recordOf("a", t), unionOf("b", t))
		for _, u := range []api.Type{intType, listOf(intType), recordOf("b", textType), unionOf("b", numType), unionOf("a b", intType, anyType)} {
			l = append(l, recordOf("a b", t, u), recordOf("b a", t, u), unionOf("a b", t, u), unionOf("b a", t, u))
		}
	}
	return l
}

// P15.1 of all small mappings and types.
func TestSmall(t *testing.T) {
	exprs := smallExprs()
	n := 0
	for _, x := range append(smallTypes(), deeperTypes()...) {
		for _, e := range exprs {
			if ask(t, x, e) == api.OK {
				n++
			}
		}
	}
	if n < 20000 {
		t.Errorf("only %d mappings fit", n)
	}
}

// someType makes a type of up to depth deep with few and short names.
func someType(r *rand.Rand, depth int) api.Type {
	if depth < 2 || r.Intn(4) == 0 {
		return plainTypes()[r.Intn(8)]
	}
	if r.Intn(3) == 0 {
		return listOf(someType(r, depth-1))
	}
	t := kind(api.TypeRecord + api.TypeKind(r.Intn(2)))
	for _, i := range r.Perm(4)[:r.Intn(4)] {
		t.Names = append(t.Names, []string{"", "a", "ab", "b"}[i])
		t.List = append(t.List, someType(r, depth-1))
	}
	return t
}

// fitting makes a mapping of up to depth deep that most likely fits t, and is not seldom lossless there.
func fitting(r *rand.Rand, t api.Type, depth int) api.Expr {
	if r.Intn(60) == 0 {
		return leaves()[r.Intn(14)]
	}
	if depth < 2 {
		return fittingLeaf(r, t)
	}
	switch k := r.Intn(8); {
	case k < 3 && t.Kind == api.TypeList:
		return mapOf(fitting(r, t.List[0], depth-1))
	case k < 5 && t.Kind == api.TypeUnion:
		return fittingCase(r, t, depth)
	case k < 5 && t.Kind == api.TypeRecord:
		return rebuilt(r, t, depth)
	case k < 6:
		e := record("")
		for _, i := range r.Perm(4)[:r.Intn(3)] {
			e.Names = append(e.Names, []string{"", "a", "ab", "b"}[i])
			e.List = append(e.List, fitting(r, t, depth-1))
		}
		return e
	}
	e := pipe()
	for range 2 + r.Intn(2) {
		x := fitting(r, t, depth-1)
		e.List = append(e.List, x)
		if made, bad := reckonMakes(t, x); bad == api.OK {
			t = made
		}
	}
	return e
}

func fittingLeaf(r *rand.Rand, t api.Type) api.Expr {
	l := leaves()
	for range 20 {
		e := l[r.Intn(len(l))]
		if e.Op == api.OpGet && len(t.Names) > 0 {
			e.Name = t.Names[r.Intn(len(t.Names))]
		}
		if e.Op == api.OpTag {
			e.Name = []string{"a", "b", "c", "d", "e"}[r.Intn(5)]
		}
		if _, bad := reckonMakes(t, e); bad == api.OK && (e.Op != api.OpConst || t.Kind == api.TypeNull || r.Intn(3) == 0) {
			return e
		}
	}
	return id
}

func fittingCase(r *rand.Rand, t api.Type, depth int) api.Expr {
	e := cases("")
	for _, i := range r.Perm(len(t.Names)) {
		if r.Intn(40) > 0 {
			x := fitting(r, t.List[i], depth-1)
			if r.Intn(2) == 0 && depth > 2 {
				x = pipe(fitting(r, t.List[i], depth-2), tag([]string{"p", "q", "r", "s", "t", "u"}[r.Intn(6)]))
			}
			e.Names, e.List = append(e.Names, t.Names[i]), append(e.List, x)
		}
	}
	if r.Intn(3) == 0 {
		e.Names, e.List = append(e.Names, "more"), append(e.List, get("q"))
	}
	return e
}

// rebuilt makes an OpRecord of what a record has, most of it.
func rebuilt(r *rand.Rand, t api.Type, depth int) api.Expr {
	e := record("")
	for _, i := range r.Perm(len(t.Names)) {
		x := get(t.Names[i])
		switch r.Intn(8) {
		case 0:
			continue
		case 1, 2, 3:
			if depth > 2 {
				x = pipe(x, fitting(r, t.List[i], depth-2))
			}
		case 4:
			x = pipe(pipe(x, id), id)
		case 5:
			x = pipe(x, id, fittingLeaf(r, t.List[i]))
		}
		e.Names, e.List = append(e.Names, "x"+t.Names[i]), append(e.List, x)
	}
	return e
}

// P15.1 of mappings and types of all sorts.
func TestOfMany(t *testing.T) {
	r := rand.New(rand.NewSource(151))
	fit, lossless, other := 0, 0, 0
	for range 60000 {
		x := someType(r, 1+r.Intn(5))
		e := fitting(r, x, 1+r.Intn(5))
		if ask(t, x, e) == api.OK {
			fit++
			if got, _ := check.Infer(x, e); got.Lossless {
				lossless++
			}
		}
		if ask(t, someType(r, 4), e) == api.OK {
			other++
		}
	}
	if fit < 30000 || lossless < 10000 || other < 3000 {
		t.Errorf("only %d mappings fit, %d of them lossless, %d at other types", fit, lossless, other)
	}
}

// broken is a mapping in which one struct is changed, most likely into none.
func broken(r *rand.Rand, e api.Expr) api.Expr {
	if len(e.List) > 0 && r.Intn(3) > 0 {
		e.List = slices.Clone(e.List)
		i := r.Intn(len(e.List))
		e.List[i] = broken(r, e.List[i])
		return e
	}
	switch r.Intn(6) {
	case 0:
		e.Op = api.Op(r.Intn(15) - 1)
	case 1:
		e.Name += []string{"", "a", "\xff"}[r.Intn(3)]
	case 2:
		e.Names = append(slices.Clone(e.Names), []string{"a", "\xff"}[r.Intn(2)])
	case 3:
		e.List = append(slices.Clone(e.List), id)
	case 4:
		e.Value = []api.Value{null, text("\xff"), {Kind: api.KindNum}, raw("a")}[r.Intn(4)]
	case 5:
		e.List = e.List[:len(e.List)/2]
	}
	return e
}

// brokenType is the same of a type.
func brokenType(r *rand.Rand, t api.Type) api.Type {
	if len(t.List) > 0 && r.Intn(3) > 0 {
		t.List = slices.Clone(t.List)
		i := r.Intn(len(t.List))
		t.List[i] = brokenType(r, t.List[i])
		return t
	}
	switch r.Intn(4) {
	case 0:
		t.Kind = api.TypeKind(r.Intn(14) - 1)
	case 1:
		t.Names = append(slices.Clone(t.Names), []string{"a", "\xff"}[r.Intn(2)])
	case 2:
		t.List = append(slices.Clone(t.List), intType)
	case 3:
		t.List = t.List[:len(t.List)/2]
	}
	return t
}

// P15.1, R1: structs of all sorts, some of which are no types, or no mappings.
func TestOfAnyStructs(t *testing.T) {
	r := rand.New(rand.NewSource(152))
	told := map[api.Errno]int{}
	for range 30000 {
		x := someType(r, 1+r.Intn(4))
		e := fitting(r, x, 1+r.Intn(4))
		if r.Intn(2) == 0 {
			x = brokenType(r, x)
		}
		if r.Intn(2) == 0 {
			e = broken(r, e)
		}
		told[ask(t, x, e)]++
	}
	for _, e := range []api.Errno{api.OK, api.ErrTypeForm, api.ErrLangForm, api.ErrCheckType} {
		if told[e] < 500 {
			t.Errorf("only %d answers are %d", told[e], e)
		}
	}
}

// P15.1 of whatever texts there are.
func FuzzInfer(f *testing.F) {
	for _, x := range [][2]string{{"record{a:text,b:num}", "{x = .b; totext, y = .a}"}, {"list(text)", "[tonum] ; sum"}, {"union{a:int,b:null}", "case {a = tag x, b = tag y}"}, {"any", "{a = id, b = tag c; case {c = const 1.5}}"}, {"record{a:list(int)}", "{n = .a; count, l = .a; [id]}"}, {"int", ".a"}} {
		f.Add(x[0], x[1])
	}
	f.Fuzz(func(t *testing.T, in, mapping string) {
		x, bad, _ := lang.ParseType(in)
		e, worse, _ := lang.Parse(mapping)
		if bad == api.OK && worse == api.OK && depth(e) <= 8 { // what is reckoned takes twice as long for each level
			ask(t, x, e)
		}
	})
}

func depth(e api.Expr) int {
	most := 0
	for _, x := range e.List {
		most = max(most, depth(x))
	}
	return 1 + most
}
