package sets_test

import (
	"go/ast"
	"go/parser"
	gotoken "go/token"
	"go/types"
	"slices"
	"strings"
	"testing"

	"demotic/api"
	"demotic/defs"
	"demotic/kinds"
	"demotic/read"
	"demotic/rows"
	"demotic/sets"
)

// declared is what types there are: of each basic type itself, and one behind which it stands, and others.
const declared = "type Ni int; type Ns string; type Nb bool; type L []int; type S struct { a int; b func() }; type A = Ni; type D = []A; type U[P any] string"

// types of these declarations; the first six are what unions may let in.
func candidates() []string {
	return []string{"int", "string", "bool", "Ni", "Ns", "Nb", "A", "U[D]", "L", "S", "D", "[]int", "func()"}
}

// unions tells all unions in which of each name there are some terms.
func unions() []string {
	var l []string
	for _, i := range []string{"", "int ", "~int ", "int ~int "} {
		for _, s := range []string{"", "string ", "~string ", "~string string "} {
			for _, b := range []string{"", "bool ", "~bool ", "bool bool "} {
				if all := strings.TrimSpace(i + s + b); all != "" {
					l = append(l, all)
				}
			}
		}
	}
	return l
}

// members tells which of the first six types are in a union, one by one.
func members(s string) []string {
	var l []string
	for _, x := range strings.Fields(s) {
		name, tilde := strings.CutPrefix(x, "~")
		l = append(l, name)
		if tilde {
			l = append(l, "N"+name[:1])
		}
	}
	return l
}

// P11.1, P11.2: all unions: a type is let in if it is a member, a parameter if all its members are.
func TestUnions(t *testing.T) {
	l := defs.Of(declared)
	p := kinds.Type{Kind: 4, Name: "P"}
	lets := map[string][]bool{}
	for _, s := range unions() {
		in := members(s)
		for _, x := range candidates() {
			want := slices.Contains(in, map[string]string{"A": "Ni", "U[D]": "Ns"}[x]) || slices.Contains(in, x)
			got := sets.Lets(l, nil, set(s), defs.Type(x))
			if got != want {
				t.Errorf("P11.1: %s lets %s: %t", s, x, got)
			}
			lets[s] = append(lets[s], got)
		}
		for _, own := range append(unions(), "any", "comparable") {
			want := true
			for _, x := range members(own) { // any and comparable are no type's name
				want = want && slices.Contains(in, x)
			}
			got := sets.Lets(l, bounds("Q", "any", "P", own), set(s), p)
			if got != want {
				t.Errorf("P11.1: %s lets a parameter of %s: %t", s, own, got)
			}
			lets[s] = append(lets[s], got)
		}
	}
	for s := range lets {
		for more := range lets {
			if !strings.Contains(" "+more+" ", " "+s+" ") {
				continue
			}
			for i, is := range lets[s] {
				if is && !lets[more][i] {
					t.Errorf("P11.2: %s lets in what %s, with more terms, does not", s, more)
				}
			}
		}
	}
}

// P11.2: everything lets in all that is let in by anything.
func TestEverything(t *testing.T) {
	l := defs.Of(declared)
	for _, s := range append(unions(), "comparable", "any") {
		scope := bounds("P", s, "Q", "any", "R", "~int")
		for kind := range 10 {
			for _, name := range []string{"int", "string", "Ni", "A", "S", "D", "U", "P", "Q", "R", "T"} {
				for _, args := range [][]kinds.Type{nil, {{Kind: 1, Name: "int"}}, {{}}} {
					x := kinds.Type{Kind: kind, Name: name, Args: args}
					if sets.Lets(l, scope, set(s), x) && !sets.Lets(l, scope, set("any"), x) {
						t.Errorf("P11.2: %s lets %v, and everything does not", s, x)
					}
				}
			}
		}
	}
}

// P11.1: each one of names, of all short rows of terms.
func TestEachRow(t *testing.T) {
	rows.Each([]string{"int ", "~int ", "string ", "~bool "}, 4, func(s string) {
		for _, names := range []string{"", "int", "string", "int string", "bool int", "string bool int"} {
			want := s != ""
			for _, x := range strings.Fields(s) {
				want = want && strings.Contains(" "+names+" ", " "+strings.TrimPrefix(x, "~")+" ")
			}
			if sets.Each(set(s), strings.Fields(names)) != want {
				t.Errorf("P11.1: Each(%s, %s): %t", s, names, !want)
			}
		}
	})
}

// written tells a constraint as a file has it.
func written(s string) string {
	l := strings.Fields(s)
	if len(l) == 1 && slices.Contains([]string{"int", "string", "bool"}, s) { // alone it is the name of a constraint
		return "interface{" + s + "}"
	}
	return strings.Join(l, " | ")
}

// P11.1: which types satisfy which constraints, as Go has it (where no name is there twice).
func TestLikeGo(t *testing.T) {
	constraints := []string{"any", "comparable"}
	for _, s := range unions() {
		names := strings.Fields(strings.ReplaceAll(s, "~", ""))
		if len(slices.Compact(names)) == len(strings.Fields(s)) {
			constraints = append(constraints, written(s))
		}
	}
	for _, own := range constraints {
		for _, s := range constraints {
			likeGo(t, own, s)
		}
	}
}

// likeGo holds what a constraint lets in against Go's own, with a parameter of another one in scope.
func likeGo(t *testing.T, own, s string) {
	text := "package p; " + declared + "; func f[P " + own + ", Q " + s + "](_ P, _ " + strings.Join(candidates(), ", _ ") + ") {}"
	n, at, e := read.File([]byte(text))
	if e != api.OK {
		t.Fatalf("%s: error %d at %d", text, e, at)
	}
	f := n.Kids[len(n.Kids)-1]
	var scope []sets.Bound
	for _, x := range f.Kids[0].Kids {
		c, ok := sets.Of(x.Kids[0], nil)
		if !ok {
			t.Fatalf("P11.1: Of: no constraint: %s", text)
		}
		scope = append(scope, sets.Bound{Name: x.Text, Set: c})
	}
	theirs, constraint := asGo(t, text)
	for i, x := range f.Kids[1].Kids[0].Kids {
		got := sets.Lets(defs.Of(declared), scope, scope[1].Set, kinds.Of(x.Kids[0], []string{"P", "Q"}))
		if got != types.Satisfies(theirs[i], constraint) {
			t.Errorf("P11.1: %s lets %s: %t (P %s)", s, theirs[i], got, own)
		}
	}
}

// asGo tells the types of f's parameters, and the constraint of its second parameter of a type.
func asGo(t *testing.T, s string) ([]types.Type, *types.Interface) {
	set := gotoken.NewFileSet()
	file, e := parser.ParseFile(set, "", s, 0)
	if e != nil {
		t.Fatal(e)
	}
	pack, e := new(types.Config).Check("p", set, []*ast.File{file}, nil)
	if e != nil {
		t.Fatal(e)
	}
	f := pack.Scope().Lookup("f").Type().(*types.Signature)
	var l []types.Type
	for i := range f.Params().Len() {
		l = append(l, f.Params().At(i).Type())
	}
	return l, f.TypeParams().At(1).Constraint().Underlying().(*types.Interface)
}
