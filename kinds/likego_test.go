package kinds_test

import (
	"go/ast"
	"go/parser"
	gotoken "go/token"
	"go/types"
	"strconv"
	"strings"
	"testing"

	"demotic/api"
	"demotic/defs"
	"demotic/kinds"
	"demotic/read"
	"demotic/rows"
)

// author writes declarations of types of any bytes: N0 to N4, of which each has as many parameters as counts says, and types that name them.
type author struct {
	*defs.Grower
	counts []int
}

func (a *author) text(room int, params []string) string {
	if room > 0 {
		switch a.Pick(9) {
		case 0:
			return "[]" + a.text(room-1, params)
		case 1:
			return "func(" + a.text(room-1, params) + ") " + a.text(room-1, params)
		case 2:
			return "func(" + a.text(room-1, params) + ", " + a.text(room-1, params) + ")"
		case 3, 4, 5:
			return a.named(room, params)
		}
	}
	l := append([]string{"int", "string", "bool"}, params...)
	return l[a.Pick(len(l))]
}

func (a *author) named(room int, params []string) string {
	i := a.Pick(len(a.counts))
	s := "N" + strconv.Itoa(i)
	var l []string
	for range a.counts[i] {
		l = append(l, a.text(room-1, params))
	}
	if len(l) > 0 {
		s += "[" + strings.Join(l, ", ") + "]"
	}
	return s
}

// declarations tells N0 to N4, and a function f whose parameters have types.
func (a *author) declarations() string {
	a.counts = []int{a.Pick(3), a.Pick(2), 0, a.Pick(2), 0}
	s := "package p\n"
	for i, count := range a.counts {
		params := []string{"P", "Q"}[:count]
		s += "type N" + strconv.Itoa(i)
		if count > 0 {
			s += "[" + strings.Join(params, " any, ") + " any]"
		}
		switch a.Pick(9) {
		case 0:
			s += " struct { a " + a.text(2, params) + "; b " + a.text(1, params) + " }\n"
		case 1, 2, 3, 4:
			s += " = " + a.text(3, params) + "\n"
		default:
			s += " " + a.text(3, params) + "\n"
		}
	}
	s += "func f[V any](a "
	for i := range 4 {
		s += a.text(2, []string{"V"}) + ", b" + strconv.Itoa(i) + " "
	}
	return s + a.named(2, []string{"V"}) + ") {}\n"
}

// asGo tells the types of f's parameters, as Go has them; nothing, if Go does not, or panics, or tells a type within itself (as it may of aliases that lead back through a type).
func asGo(s string) (l []types.Type) {
	defer func() {
		if recover() != nil {
			l = nil
		}
	}()
	set := gotoken.NewFileSet()
	file, e := parser.ParseFile(set, "", s, 0)
	if e != nil {
		return nil
	}
	pack, e := new(types.Config).Check("p", set, []*ast.File{file}, nil)
	if e != nil {
		return nil
	}
	params := pack.Scope().Lookup("f").Type().(*types.Signature).Params()
	for i := range params.Len() {
		x := params.At(i).Type()
		l = append(l, x)
		ofGo(x, 50)
		if _, is := types.Unalias(x).(*types.TypeParam); !is {
			ofGo(x.Underlying(), 50)
		}
	}
	return l
}

// asKinds tells the definitions, and the types of f's parameters.
func asKinds(t *testing.T, s string) (l []kinds.Def, params []kinds.Type) {
	n, _, e := read.File([]byte(s))
	if e != api.OK {
		t.Fatalf("%s: error %d", s, e)
	}
	for _, d := range n.Kids {
		var row []string
		for _, x := range d.Kids[0].Kids {
			row = append(row, x.Text)
		}
		if d.Kind != api.Func {
			l = append(l, kinds.Def{Name: d.Text, Params: row, Type: kinds.Of(d.Kids[1], row), Alias: d.Kind == api.Alias})
			continue
		}
		for _, x := range d.Kids[1].Kids[0].Kids {
			params = append(params, kinds.Of(x.Kids[0], row))
		}
	}
	return l, params
}

// ofGo is a type of Go's, in full. It panics, if there are more than so many within one another.
func ofGo(t types.Type, room int) kinds.Type {
	if room == 0 {
		panic("too deep")
	}
	var of []types.Type
	out := kinds.Type{}
	switch x := types.Unalias(t).(type) {
	case *types.Basic:
		out = typ(1, x.Name())
	case *types.TypeParam:
		out = typ(4, x.Obj().Name())
	case *types.Slice:
		out, of = typ(5, ""), []types.Type{x.Elem()}
	case *types.Named:
		out = typ(3, x.Obj().Name())
		for i := range x.TypeArgs().Len() {
			of = append(of, x.TypeArgs().At(i))
		}
	case *types.Signature:
		out = typ(6, "")
		for i := range x.Params().Len() {
			of = append(of, x.Params().At(i).Type())
		}
		if x.Results().Len() > 0 {
			of = append(of, x.Results().At(0).Type())
		}
	case *types.Struct:
		var names []string
		for i := range x.NumFields() {
			names = append(names, x.Field(i).Name())
			of = append(of, x.Field(i).Type())
		}
		out = typ(8, strings.Join(names, ","))
	}
	for _, x := range of {
		out.Args = append(out.Args, ofGo(x, room-1))
	}
	if x, is := types.Unalias(t).(*types.Signature); is && x.Results().Len() == 0 {
		out.Args = append(out.Args, typ(7, ""))
	}
	return out
}

// likeGo holds types against Go's own; false, if Go has none, or they are too great.
func likeGo(t *testing.T, s string) bool {
	l, ours := asKinds(t, s)
	for _, x := range ours {
		if great(l, x) || great(l, kinds.Behind(l, x)) {
			return false
		}
	}
	theirs := asGo(s)
	if theirs == nil {
		return false
	}
	for i, x := range ours {
		g := theirs[i]
		is(t, "P10.1: Full, "+s, kinds.Full(l, x), ofGo(g, 50))
		_, param := types.Unalias(g).(*types.TypeParam)
		if !param {
			is(t, "P10.1: Behind, "+s, kinds.Full(l, kinds.Behind(l, x)), ofGo(g.Underlying(), 50))
		}
		_, fields := g.Underlying().(*types.Struct)
		if kinds.Comparable(l, x) != types.Comparable(g) && !fields {
			t.Fatalf("P10.1: Comparable, of the parameter %d of %s: %t", i, s, kinds.Comparable(l, x))
		}
		b, _ := g.Underlying().(*types.Basic)
		if kinds.Ordered(l, x) != (b != nil && b.Info()&types.IsOrdered != 0) {
			t.Fatalf("P10.1: Ordered, of the parameter %d of %s: %t", i, s, kinds.Ordered(l, x))
		}
		for name, u := range map[string]types.BasicKind{"int": types.UntypedInt, "string": types.UntypedString, "bool": types.UntypedBool} {
			if kinds.Assigns(l, typ(2, name), x) != types.AssignableTo(types.Typ[u], g) {
				t.Fatalf("P10.1: Assigns from an untyped %s to the parameter %d of %s: %t", name, i, s, kinds.Assigns(l, typ(2, name), x))
			}
		}
		for j, y := range ours {
			if kinds.Assigns(l, x, y) != types.AssignableTo(g, theirs[j]) {
				t.Fatalf("P10.1: Assigns from the parameter %d to %d of %s: %t", i, j, s, kinds.Assigns(l, x, y))
			}
			if kinds.Same(kinds.Full(l, x), kinds.Full(l, y)) != types.Identical(g, theirs[j]) {
				t.Fatalf("P10.1: Same in full, of the parameters %d and %d of %s", i, j, s)
			}
		}
	}
	return true
}

// great: has it no type in full, or such a great one that the limits count?
func great(l []kinds.Def, t kinds.Type) bool {
	if bad(l, t, nil, nil) {
		return true
	}
	looked, count := looks(l, t, nil, nil)
	return looked >= 20000 || count > 1000
}

// P10.1: what Go has of types, definitions and aliases.
func TestLikeGo(t *testing.T) {
	count := 0
	for seed := range 12000 {
		a := author{Grower: defs.Grow(rows.Noise(seed, 150))}
		if likeGo(t, a.declarations()) {
			count++
		}
	}
	if count < 2000 {
		t.Errorf("just %d were held against Go's", count)
	}
}

// FuzzLikeGo looks for types that Go has otherwise.
func FuzzLikeGo(f *testing.F) {
	for seed := range 20 {
		f.Add(rows.Noise(seed, 120))
	}
	f.Fuzz(func(t *testing.T, b []byte) {
		if len(b) < 400 {
			a := author{Grower: defs.Grow(b)}
			likeGo(t, a.declarations())
		}
	})
}
