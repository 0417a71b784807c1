package unify_test

import (
	"go/ast"
	"go/parser"
	gotoken "go/token"
	"go/types"
	"strconv"
	"strings"
	"testing"

	"demotic/defs"
	"demotic/kinds"
	"demotic/rows"
	"demotic/unify"
)

// header is what the author's calls may name.
const header = `type N int; type T string; type R []T; type K R; type F func(int) T; type H func(R) F; type D []N; type U []U
type L[X any] []X; type DL[X any] L[X]; type G[X any, Y any] func(X) Y; type Z[X any] struct { a X }
type A = []N; type M[X any] = L[X]; type V[X any] = int; type W[X any] = []X; type E[X any] = func(X) A; type I = int
`

// author writes, of any bytes, a function f with two parameters of types, and a call of it.
type author struct {
	*defs.Grower
	l []kinds.Def // what is declared
}

// written tells a type with parameters of types of these names.
func (a author) written(room int, names ...string) string {
	one := func() string { return a.written(room-1, names...) }
	if way := a.Pick(12); room > 1 {
		switch way {
		case 0, 1:
			return "[]" + one()
		case 2:
			return "func(" + one() + ") " + one()
		case 3:
			return "func(" + one() + ")"
		case 4, 5, 6:
			l := [...]string{"L", "M", "W", "V", "E", "Z", "DL", "L"}
			return l[a.Pick(len(l))] + "[" + one() + "]"
		case 7:
			return "G[" + one() + ", " + one() + "]"
		}
	}
	l := append([]string{"int", "string", "N", "T", "R", "K", "F", "H", "D", "A", "I", "U"}, names...)
	if len(names) > 0 && a.Pick(3) > 0 {
		return names[a.Pick(len(names))]
	}
	return l[a.Pick(len(l))]
}

// near tells a type that a pattern may fit: with types for its parameters, and, it may be, a named one in the place of what stands behind it.
func (a author) near(pattern string, by []kinds.Type) string {
	t := defs.Type(pattern, "P", "Q")
	if a.Pick(8) > 0 {
		t = kinds.With(t, []string{"P", "Q"}, by)
	} else if a.Pick(3) == 0 {
		return a.written(3, "X")
	}
	names := [...]string{"R", "K", "F", "H", "D", "DL[T]", "L[N]", "G[int, T]", "L[int]", "G[R, F]"}
	name := defs.Type(names[a.Pick(len(names))])
	if kinds.Same(kinds.Full(a.l, t), kinds.Full(a.l, kinds.Behind(a.l, name))) && a.Pick(3) > 0 {
		t = name
	}
	return kinds.Text(kinds.With(t, []string{"P", "Q"}, defs.Types("int", "T")))
}

// call is one of f, as the author wrote it.
type call struct {
	file            string
	patterns, types []kinds.Type
}

// call writes a function g with a parameter of a type X, that calls f.
func (a author) call() call {
	var c call
	var params, given, operands []string
	by := []kinds.Type{defs.Type(a.written(2, "X"), "X"), defs.Type(a.written(2, "X"), "X")}
	for i := range 1 + a.Pick(4) {
		pattern, x := a.written(1+a.Pick(3), "P", "Q"), "x"+strconv.Itoa(i)
		params = append(params, x+" "+pattern)
		c.patterns = append(c.patterns, defs.Type(pattern, "P", "Q"))
		l := [...]string{"1", `"a"`, "true"}
		if loose := a.Pick(9); loose < len(l) {
			operands = append(operands, l[loose])
			c.types = append(c.types, kinds.Type{Kind: 2, Name: [...]string{"int", "string", "bool"}[loose]})
			continue
		}
		t := a.near(pattern, by)
		given, operands = append(given, x+" "+t), append(operands, x)
		c.types = append(c.types, defs.Type(t, "X"))
	}
	c.file = "package p; " + header + "func f[P any, Q any](" + strings.Join(params, ", ") + ") {}; func g[X any](" + strings.Join(given, ", ") + ") { f(" + strings.Join(operands, ", ") + ") }"
	return c
}

// asGo tells the types that Go finds, in full; nothing, if it does not take the call.
func asGo(t *testing.T, l []kinds.Def, s string) []kinds.Type {
	set := gotoken.NewFileSet()
	file, e := parser.ParseFile(set, "", s, 0)
	if e != nil {
		t.Fatalf("%s: %v", s, e)
	}
	info := &types.Info{Instances: map[*ast.Ident]types.Instance{}}
	if _, e := new(types.Config).Check("p", set, []*ast.File{file}, info); e != nil {
		if text := e.Error(); !strings.Contains(text, "cannot infer") && !strings.Contains(text, "does not match") && !strings.Contains(text, "cannot use") && !strings.Contains(text, "mismatched types") {
			t.Fatalf("%s: %v", s, e)
		}
		return nil
	}
	var out []kinds.Type
	for name, instance := range info.Instances {
		for i := 0; name.Name == "f" && i < instance.TypeArgs.Len(); i++ {
			text := types.TypeString(instance.TypeArgs.At(i), func(*types.Package) string { return "" })
			out = append(out, kinds.Full(l, defs.Type(text, "X")))
		}
	}
	return out
}

// takes: is the call well typed with types for P and Q, none of which is nothing?
func (c call) takes(l []kinds.Def, by []kinds.Type) bool {
	for i, p := range c.patterns {
		if !kinds.Assigns(l, c.types[i], kinds.With(p, row(), by)) {
			return false
		}
	}
	return by[0].Kind != 7 && by[1].Kind != 7
}

// simple: is, with types for P and Q, each pattern of what is not untyped the same in full as its type, or, a slice or a function, behind it? Then each of them fits.
func (c call) simple(l []kinds.Def, by []kinds.Type) bool {
	for i, p := range c.patterns {
		made, t := kinds.Full(l, kinds.With(p, row(), by)), kinds.Full(l, c.types[i])
		if kind := kinds.Full(l, p).Kind; t.Kind == 3 && (kind == 5 || kind == 6) {
			t = kinds.Full(l, kinds.Behind(l, t))
		}
		if t.Kind != 2 && !kinds.Same(made, t) {
			return false
		}
	}
	return true
}

// likeGo holds what is found for a call against what Go finds; true, if both find some.
func likeGo(t *testing.T, l []kinds.Def, b []byte) bool {
	c := author{defs.Grow(b), l}.call()
	ours, ok := unify.Find(l, row(), c.patterns, c.types)
	ok = ok && c.takes(l, ours)
	theirs := asGo(t, l, c.file)
	if theirs == nil || !ok && !c.simple(l, theirs) { // where two are to be the same, Go takes others, too
		if ok {
			t.Fatalf("P12.1: %s: found %s, and Go finds none", c.file, written(ours))
		}
		return false
	}
	if !ok || written(ours) != written(theirs) {
		t.Fatalf("P12.1: %s: found %s, %t, and Go finds %s", c.file, written(ours), ok, written(theirs))
	}
	return true
}

// P12.1: the types that Go finds for a call.
func TestLikeGo(t *testing.T) {
	l, found := defs.Of(header), 0
	for seed := range 12000 {
		if likeGo(t, l, rows.Noise(seed, 80)) {
			found++
		}
	}
	if found < 1200 {
		t.Errorf("just %d were found", found)
	}
}

// FuzzLikeGo looks for calls for which Go finds other types.
func FuzzLikeGo(f *testing.F) {
	l := defs.Of(header)
	for seed := range 20 {
		f.Add(rows.Noise(seed, 80))
	}
	f.Fuzz(func(t *testing.T, b []byte) {
		if len(b) < 200 {
			likeGo(t, l, b)
		}
	})
}
