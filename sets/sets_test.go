package sets_test

import (
	"reflect"
	"strings"
	"testing"

	"demotic/api"
	"demotic/defs"
	"demotic/kinds"
	"demotic/sets"
	"demotic/trees"
)

// set makes a constraint of a text: any, comparable, or terms with blanks between.
func set(s string) sets.Set {
	out := sets.Set{All: s == "any", Comparable: s == "comparable"}
	if out.All || out.Comparable {
		return out
	}
	for _, x := range strings.Fields(s) {
		name, tilde := strings.CutPrefix(x, "~")
		out.Terms = append(out.Terms, sets.Term{Tilde: tilde, Name: name})
	}
	return out
}

// bounds makes a scope of names and constraints.
func bounds(l ...string) []sets.Bound {
	var out []sets.Bound
	for i := 0; i < len(l); i += 2 {
		out = append(out, sets.Bound{Name: l[i], Set: set(l[i+1])})
	}
	return out
}

// P11.1: the constraint of a tree.
func TestOf(t *testing.T) {
	given := bounds("C", "~int string", "any", "bool", "D", "any", "C", "comparable", "E", "comparable", "int", "~string")
	for _, x := range []struct{ tree, want, with string }{
		{`TName"any"`, "any", "bool"}, {`TName"comparable"`, "comparable", "comparable"},
		{`TName"C"`, "", "~int string"}, {`TName"D"`, "", "any"}, {`TName"E"`, "", "comparable"}, {`TName"int"`, "", "~string"},
		{`TName"string"`, "", ""}, {`TName"F"`, "", ""}, {`TName"c"`, "", ""}, {`TName`, "", ""},
		{`TName"any"(TName"int")`, "", ""}, {`TName"comparable"(TName"int")`, "", ""}, {`TName"C"(TName"int")`, "", ""},
		{`TInter(Term(TName"int"))`, "int", "int"}, {`TInter(Term"~"(TName"bool"))`, "~bool", "~bool"},
		{`TInter(Term(TName"int") Term"~"(TName"string") Term(TName"bool"))`, "int ~string bool", "int ~string bool"},
		{`TInter(Term"~"(TName"int") Term(TName"int") Term"~"(TName"int"))`, "~int int ~int", "~int int ~int"},
		{`TInter(Term(TName"N"))`, "", ""}, {`TInter(Term(TName"C"))`, "", ""}, {`TInter(Term(TName"any"))`, "", ""}, {`TInter(Term(TName"comparable"))`, "", ""},
		{`TInter(Term(TName"int") Term(TName"N"))`, "", ""}, {`TInter(Term(TName"N") Term(TName"int"))`, "", ""}, {`TInter(Term(TName"int"(TName"int")))`, "", ""}, {`TInter(Term(TSlice(TName"int")))`, "", ""},
		{`TInter(Term"~"(TFunc(List None)))`, "", ""}, {`TInter(Term(EName"int"))`, "", ""}, {`TInter(Term(TName))`, "", ""},
		{`TInter`, "", ""}, {`TInter"x"(Term(TName"int"))`, "", ""}, {`TInter(None)`, "", ""}, {`TInter(TName"int")`, "", ""}, {`TInter(Field(TName"int"))`, "", ""}, {`TInter(Term)`, "", ""}, {`TInter(Term"x"(TName"int"))`, "", ""}, {`TInter(Term"~~"(TName"int"))`, "", ""}, {`TInter(Term(TName"int" TName"int"))`, "", ""}, {`TInter(Term(TName"int") Term)`, "", ""},
		{`None`, "", ""}, {`EName"any"`, "", ""}, {`EName"C"`, "", ""}, {`Term(TName"int")`, "", ""}, {`TSlice(TName"any")`, "", ""}, {`TStruct`, "", ""}, {`List(Term(TName"int"))`, "", ""}, {`TParam"P"(TName"any")`, "", ""},
	} {
		for _, y := range []struct {
			given []sets.Bound
			want  string
		}{{nil, x.want}, {given, x.with}} {
			s, ok := sets.Of(trees.Of(x.tree), y.given)
			if ok != (y.want != "") || !reflect.DeepEqual(s, set(y.want)) {
				t.Errorf("P11.1: Of(%s, %v): %v, %t, not %s", x.tree, y.given, s, ok, y.want)
			}
		}
	}
	if _, ok := sets.Of(api.Node{Kind: api.Kinds, Text: "any"}, given); ok {
		t.Error("P11.1: Of a kind that there is not")
	}
}

// wrong are constraints that are none.
func wrong() []sets.Set {
	terms := set("int").Terms
	return []sets.Set{
		{}, {All: true, Comparable: true}, {All: true, Terms: terms}, {Comparable: true, Terms: terms}, {All: true, Comparable: true, Terms: terms},
		set("x"), set("~x"), set("any int"), set("int comparable"), set("int string Bool"), {Terms: []sets.Term{{Name: ""}}}, {Terms: []sets.Term{{Tilde: true, Name: "~int"}}}, set("error ~int"),
		{All: true, Terms: set("x").Terms},
	}
}

// P11.1: which may be one.
func TestRight(t *testing.T) {
	for _, s := range []string{"any", "comparable", "int", "~int", "string", "bool", "~bool ~string ~int", "int int ~int"} {
		if !sets.Right(set(s)) {
			t.Errorf("P11.1: Right(%s)", s)
		}
	}
	for _, s := range wrong() {
		if sets.Right(s) {
			t.Errorf("P11.1: Right(%v)", s)
		}
	}
	if !sets.Right(sets.Set{All: true, Terms: []sets.Term{}}) {
		t.Error("R3: an empty list of terms counts")
	}
}

// P11.1: which types are let in.
func TestLets(t *testing.T) {
	l := defs.Of(`
type N int; type T string; type B bool; type M N; type L []int; type G[P any] []P; type U[P any] int; type S struct { a int }; type R R
type A = N; type I = int; type D = []int; type V[P any] = P; type O = O
type N string`)
	scope := bounds("P", "int", "Q", "~int string", "X", "any", "K", "comparable", "Z", "~bool", "P", "any", "W", "", "Y", "x", "E", "~int ~string ~bool", "Pair", "int string")
	all := "int string bool I N T B M A U[O1] V[int] V[A] []int D L G[int] S R V[D] func() unknown U[int] N[int]"
	for _, x := range []struct{ set, in, params string }{
		{"any", all, "P Q X K Z E Pair"},
		{"comparable", "int string bool I N T B M A U[O1] V[int] V[A] U[int]", "P Q K Z E Pair"},
		{"int", "int I V[int]", "P"},
		{"~int", "int I V[int] N M A U[O1] V[A] U[int]", "P"},
		{"string", "string", ""},
		{"~bool", "bool B", "Z"},
		{"bool", "bool", ""},
		{"int string", "int I V[int] string", "P Pair"},
		{"~int string", "int I V[int] N M A U[O1] V[A] U[int] string", "P Q Pair"},
		{"int ~string", "int I V[int] string T", "P Pair"},
		{"~string ~int", "int I V[int] N M A U[O1] V[A] U[int] string T", "P Q Pair"},
		{"int ~int", "int I V[int] N M A U[O1] V[A] U[int]", "P"},
		{"~int int", "int I V[int] N M A U[O1] V[A] U[int]", "P"},
		{"~int ~string ~bool", "int string bool I N T B M A U[O1] V[int] V[A] U[int]", "P Q Z E Pair"},
	} {
		in := map[string]bool{}
		for _, s := range strings.Fields(x.in) {
			in[s] = true
		}
		for _, s := range strings.Fields(all + " O []O V[O] U[V] A[int] V") {
			if sets.Lets(l, scope, set(x.set), defs.Type(s)) != in[s] {
				t.Errorf("P11.1: %s lets %s: %t", x.set, s, !in[s])
			}
		}
		in = map[string]bool{}
		for _, s := range strings.Fields(x.params) {
			in[s] = true
		}
		for _, s := range []string{"P", "Q", "X", "K", "Z", "E", "Pair", "W", "Y", "int", ""} {
			p := kinds.Type{Kind: 4, Name: s}
			if sets.Lets(l, scope, set(x.set), p) != in[s] || sets.Lets(l, scope, set(x.set), kinds.Type{Kind: 3, Name: "V", Args: []kinds.Type{p}}) != in[s] {
				t.Errorf("P11.1: %s lets the parameter %s: %t", x.set, s, !in[s])
			}
			if sets.Lets(l, nil, set(x.set), p) {
				t.Errorf("P11.1: %s lets the parameter %s, which is not in scope", x.set, s)
			}
		}
		for kind, want := range map[int]bool{0: false, 1: x.set == "any" || x.set == "comparable", 2: x.set == "any", 7: x.set == "any", 8: x.set == "any"} {
			if sets.Lets(l, scope, set(x.set), kinds.Type{Kind: kind, Name: "P"}) != want {
				t.Errorf("P11.1: %s lets kind %d: %t", x.set, kind, !want)
			}
		}
		if sets.Lets(l, scope, set(x.set), kinds.Type{Kind: 2, Name: "int"}) != (x.set == "any") {
			t.Errorf("P11.1: %s lets an untyped int", x.set)
		}
	}
	for _, s := range wrong() {
		for _, x := range strings.Fields(all) {
			if sets.Lets(l, scope, s, defs.Type(x)) || sets.Lets(l, scope, s, defs.Type("P", "P")) {
				t.Errorf("P11.1: %v, which is not right, lets %s or P", s, x)
			}
		}
		if sets.Lets(l, []sets.Bound{{Name: "P", Set: s}, {Name: "P", Set: set("int")}}, set("any"), defs.Type("P", "P")) {
			t.Errorf("P11.1: a parameter of %v, which is not right, is let in", s)
		}
	}
}

// P11.1: a type is held in full: one of too many types is none.
func TestLetsNone(t *testing.T) {
	l := defs.Of("type A = func(B, B); type B = func(C, C); type C = func(D, D, D, D, D, D, D, D, D, D); type D = func(E, E, E, E, E, E, E, E, E, E, E, E, E, E, E, E, E, E, E, E); type E = []F; type F = func(G, G, G, G, G, G, G, G, G, G, G, G, G, G, G, G, G, G, G, G); type G = []int; type N[P any] int")
	for s, want := range map[string]bool{"A": false, "D": true, "[]A": false, "N[A]": false, "N[D]": true} {
		if sets.Lets(l, nil, set("any"), defs.Type(s)) != want {
			t.Errorf("P11.1: any lets %s: %t", s, !want)
		}
	}
}

// P11.1: has each term one of these names?
func TestEach(t *testing.T) {
	for _, x := range []struct {
		set, names string
		want       bool
	}{
		{"int", "int", true}, {"~int", "int", true}, {"int", "~int", false}, {"int", "", false}, {"int", "string bool", false}, {"int", "string int", true}, {"int", "int int", true},
		{"int ~string", "string int", true}, {"int ~string", "string", false}, {"int ~string", "int", false}, {"int ~string bool", "int string", false}, {"bool ~bool bool", "bool", true},
		{"any", "int", false}, {"any", "", false}, {"any", "any", false}, {"comparable", "int string bool comparable", false}, {"", "int", false}, {"", "", false},
		{"x ~y", "y x", true}, {"x y", "x", false},
	} {
		if sets.Each(set(x.set), strings.Fields(x.names)) != x.want {
			t.Errorf("P11.1: Each(%s, %s): %t", x.set, x.names, !x.want)
		}
	}
	if sets.Each(set("int"), []string{""}) || !sets.Each(sets.Set{Terms: []sets.Term{{}}}, []string{""}) || !sets.Each(sets.Set{All: true, Terms: set("int").Terms}, []string{"int"}) {
		t.Error("P11.1: Each")
	}
}

// P11.1: the first one of a name.
func TestFind(t *testing.T) {
	scope := bounds("P", "int", "Q", "any", "P", "comparable", "", "~bool", "W", "")
	for name, want := range map[string]string{"P": "int", "Q": "any", "": "~bool", "W": ""} {
		if s, ok := sets.Find(scope, name); !ok || !reflect.DeepEqual(s, set(want)) {
			t.Errorf("P11.1: Find(%s): %v, %t", name, s, ok)
		}
	}
	for _, name := range []string{"p", "R", "PQ", "any", " "} {
		if s, ok := sets.Find(scope, name); ok || !reflect.DeepEqual(s, sets.Set{}) {
			t.Errorf("P11.1: Find(%s): %v, %t", name, s, ok)
		}
	}
	if s, ok := sets.Find(nil, "P"); ok || !reflect.DeepEqual(s, sets.Set{}) {
		t.Error("P11.1: Find in nothing")
	}
}

// R4: what is handed out is new.
func TestMemory(t *testing.T) {
	scope := bounds("P", "int ~string")
	scope[0].Set.Terms = scope[0].Set.Terms[:1]
	for _, get := range []func() sets.Set{
		func() sets.Set { s, _ := sets.Find(scope, "P"); return s },
		func() sets.Set { s, _ := sets.Of(api.Node{Kind: api.TName, Text: "P"}, scope); return s },
	} {
		s := get()
		s.Terms = append(s.Terms, sets.Term{Name: "bool"})
		s.Terms[0] = sets.Term{Tilde: true, Name: "bool"}
		if got := get(); !reflect.DeepEqual(got, set("int")) || !reflect.DeepEqual(scope[0].Set.Terms[:2], set("int ~string").Terms) {
			t.Errorf("R4: %v, %v", got, scope)
		}
	}
}
