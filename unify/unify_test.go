package unify_test

import (
	"strings"
	"testing"

	"demotic/defs"
	"demotic/kinds"
	"demotic/unify"
)

// declared are definitions for the tables.
const declared = `
type N int; type T string; type R []T; type K R; type F func(int) T; type H func(R) F; type S struct { a int }; type C []I; type Two func(I, A)
type L[X any] []X; type D[X any] L[X]; type G[X any, Y any] func(X) Y; type Z[X any] struct { a X }; type W2[X any, Y any] []X
type A = []N; type I = int; type M[X any] = L[X]; type V[X any] = int; type W[X any] = []X; type E[X any] = func(X) A; type Y[X any] = X; type AR = R
type O = O; type U U; type Q0 []O; type Q1 func(int, []O); type Q2[X any] []int; type UU []UU; type B O
`

// definitions are these, and then others of the same names, which don't count.
func definitions() []kinds.Def {
	return append(defs.Of(declared), defs.Of("type N []int; type A = int; type R = int; type L[X any] = int; type O int")...)
}

// row is the row of parameters in the tables.
func row() []string { return []string{"P", "Q"} }

// typ reads a type, in which P, Q and X are parameters; #int is an untyped one, # no type, #nothing is what a function has without a result.
func typ(s string) kinds.Type {
	if slice, is := strings.CutPrefix(s, "[]"); is && strings.Contains(s, "#") {
		return defs.Slices(1, typ(slice))
	}
	switch name, is := strings.CutPrefix(s, "#"); {
	case is && name == "":
		return kinds.Type{}
	case is && name == "nothing":
		return kinds.Type{Kind: 7}
	case is:
		return kinds.Type{Kind: 2, Name: name}
	}
	return defs.Type(s, "P", "Q", "X")
}

// all reads some, with | between.
func all(s string) []kinds.Type {
	var l []kinds.Type
	for _, x := range strings.Split(s, "|") {
		if s != "" {
			l = append(l, typ(strings.TrimSpace(x)))
		}
	}
	return l
}

// told checks what is told: the types that want reads, or, if that is no, none.
func told(t *testing.T, what string, got []kinds.Type, ok bool, want string) {
	t.Helper()
	if want == "no" {
		if ok || len(got) > 0 {
			t.Errorf("P12.1: %s: %v, %t", what, got, ok)
		}
		return
	}
	if !ok || written(got) != written(all(want)) {
		t.Errorf("P12.1: %s: %v, %t, not %s", what, got, ok, want)
	}
}

// written tells types as a text.
func written(l []kinds.Type) string { return defs.Written(defs.Make(0, "", l...)) }

// P12.1: which patterns fit which types, where nothing stands for P and Q yet.
func TestFits(t *testing.T) {
	for _, x := range []struct{ pattern, t, want string }{
		{"P", "int", "int | #"}, {"Q", "int", "# | int"}, {"P", "N", "N | #"}, {"P", "[]N", "[]N | #"}, {"P", "func(int) N", "func(int) N | #"}, {"P", "L[N]", "L[N] | #"}, {"P", "unknown", "unknown | #"}, {"P", "U", "U | #"}, {"P", "S", "S | #"},
		{"P", "A", "[]N | #"}, {"P", "V[O]", "no"}, {"P", "V[T]", "int | #"}, {"P", "M[A]", "L[[]N] | #"}, {"P", "[]I", "[]int | #"}, {"P", "P", "P | #"}, {"P", "Q", "Q | #"}, {"Q", "P", "# | P"}, {"P", "X", "X | #"}, {"P", "[]P", "[]P | #"},
		{"P", "#int", "#int | #"}, {"P", "#nothing", "#nothing | #"}, {"Y[P]", "int", "int | #"}, {"Y[Y[Q]]", "A", "# | []N"},

		{"[]P", "[]int", "int | #"}, {"[]P", "[]A", "[]N | #"}, {"[]P", "A", "N | #"}, {"[]P", "W[T]", "T | #"}, {"[]P", "[][]N", "[]N | #"}, {"[][]P", "[][]N", "N | #"}, {"[][]P", "[]A", "N | #"}, {"[]P", "[]P", "P | #"}, {"[]P", "[]#", "no"}, {"[]#", "[]#", "no"}, {"P", "[]#", "[]# | #"}, {"[]P", "[]#int", "#int | #"}, {"[]P", "[]#nothing", "#nothing | #"}, {"[]#int", "[]#int", "# | #"}, {"[]#int", "[]int", "no"},
		{"[]P", "R", "T | #"}, {"[]P", "AR", "T | #"}, {"[]P", "K", "T | #"}, {"[]P", "C", "int | #"}, {"[]P", "L[A]", "[]N | #"}, {"[]P", "D[T]", "T | #"}, {"[]P", "M[N]", "N | #"}, {"[]P", "W2[N, T]", "N | #"}, {"[]P", "Q2[T]", "int | #"}, {"[]P", "UU", "UU | #"}, {"[][][]P", "UU", "UU | #"},
		{"[][]P", "[]R", "T | #"}, {"[][]P", "L[K]", "T | #"}, {"[][]P", "R", "no"}, {"[][]P", "A", "no"}, {"[]L[P]", "[]L[N]", "N | #"}, {"[]L[P]", "L[M[N]]", "N | #"},
		{"[]P", "int", "no"}, {"[]P", "N", "no"}, {"[]P", "func(int)", "no"}, {"[]P", "func() int", "no"}, {"[]P", "F", "no"}, {"[]P", "S", "no"}, {"[]P", "Z[int]", "no"}, {"[]P", "U", "no"}, {"[]P", "unknown", "no"}, {"[]P", "unknown[int]", "no"}, {"[]P", "L", "no"}, {"[]P", "L[int, int]", "no"}, {"[]P", "P", "no"}, {"[]P", "#int", "no"}, {"[]P", "#nothing", "no"},
		{"[]int", "[]int", "# | #"}, {"[]int", "[]I", "# | #"}, {"[]I", "C", "# | #"}, {"[]int", "[]N", "no"}, {"[]T", "R", "# | #"}, {"[]string", "R", "no"}, {"[]N", "A", "# | #"},

		{"func(P) Q", "func(int) T", "int | T"}, {"func(Q) P", "func(int) T", "T | int"}, {"func(P, Q)", "func(int, T)", "int | T"}, {"func(P) Q", "func(I) A", "int | []N"}, {"func(P) Q", "func(int)", "int | #nothing"}, {"func() Q", "func()", "# | #nothing"}, {"func() Q", "func() N", "# | N"},
		{"func(P)", "func(int)", "int | #"}, {"func(P)", "func(int) T", "no"}, {"func(P)", "func()", "no"}, {"func()", "func(int)", "no"}, {"func(P)", "func(int, int)", "no"}, {"func(P, Q)", "func(int)", "no"}, {"func(P, Q)", "func(int) T", "no"}, {"func() Q", "func(int) T", "no"}, {"func()", "func()", "# | #"}, {"func() int", "func()", "no"},
		{"func(P, P)", "func(int, int)", "int | #"}, {"func(P, P)", "func(int, I)", "int | #"}, {"func(P, P)", "func(int, N)", "no"}, {"func(P) P", "func(int) N", "no"}, {"func(P, []P)", "func(N, A)", "N | #"}, {"func(P, []P)", "func(int, A)", "no"}, {"func([]P, P)", "func([]T, T)", "T | #"}, {"func([]P, P)", "func([]T, string)", "no"}, {"func(P, P)", "func([]T, R)", "no"}, {"func(P, P)", "func(R, K)", "no"}, {"func([]P, []P)", "func(R, []T)", "T | #"},
		{"func(P) Q", "F", "int | T"}, {"func(P) Q", "G[T, A]", "T | []N"}, {"func(P) P", "G[A, []N]", "[]N | #"}, {"func(P, Q)", "Two", "int | []N"}, {"func(P, []Q)", "Two", "int | N"}, {"func([]P) Q", "H", "T | F"}, {"func([]P) func(Q) P", "H", "T | int"}, {"func(P) Q", "E[T]", "T | []N"}, {"func(P) []Q", "E[T]", "T | N"},
		{"func(P) Q", "[]int", "no"}, {"func(P) Q", "R", "no"}, {"func(P) Q", "N", "no"}, {"func(P) Q", "int", "no"}, {"func(P) Q", "G[int]", "no"}, {"func(P) Q", "S", "no"}, {"func(P) Q", "U", "no"}, {"func(P)", "F", "no"}, {"func(P) int", "F", "no"}, {"func(P) T", "F", "int | #"},

		{"L[P]", "L[int]", "int | #"}, {"L[P]", "M[A]", "[]N | #"}, {"M[P]", "L[int]", "int | #"}, {"M[[]P]", "M[A]", "N | #"}, {"L[L[P]]", "L[M[T]]", "T | #"}, {"L[P]", "L[P]", "P | #"}, {"G[P, Q]", "G[int, A]", "int | []N"}, {"G[Q, P]", "G[int, A]", "[]N | int"}, {"G[P, P]", "G[int, I]", "int | #"}, {"G[P, P]", "G[int, N]", "no"}, {"G[P, []P]", "G[N, A]", "N | #"},
		{"Z[P]", "Z[int]", "int | #"}, {"unknown[P]", "unknown[A]", "[]N | #"}, {"L[[]P]", "L[R]", "T | #"}, {"L[P, Q]", "L[int, N]", "int | N"}, {"N[P]", "N[int]", "int | #"}, {"N", "N", "# | #"}, {"unknown", "unknown", "# | #"}, {"L", "L", "# | #"},
		{"L[P]", "[]int", "no"}, {"L[P]", "D[int]", "no"}, {"D[P]", "L[int]", "no"}, {"L[P]", "R", "no"}, {"L[P]", "int", "no"}, {"L[P]", "L", "no"}, {"L", "L[int]", "no"}, {"L[P]", "L[int, int]", "no"}, {"L[P, Q]", "L[int]", "no"}, {"N", "T", "no"}, {"N", "int", "no"}, {"K", "R", "no"}, {"R", "K", "no"}, {"R", "[]T", "no"}, {"F", "func(int) T", "no"}, {"N", "#int", "no"}, {"L[P]", "unknown[int]", "no"}, {"N[P]", "N", "no"},

		{"W[P]", "[]int", "int | #"}, {"W[P]", "R", "T | #"}, {"W[W[P]]", "[][]int", "int | #"}, {"E[P]", "func(int) []N", "int | #"}, {"E[P]", "func(int) R", "no"}, {"V[P]", "int", "# | #"}, {"V[P]", "I", "# | #"}, {"V[P]", "N", "no"}, {"A", "[]N", "# | #"}, {"AR", "R", "# | #"}, {"AR", "K", "no"},

		{"int", "int", "# | #"}, {"int", "I", "# | #"}, {"I", "int", "# | #"}, {"int", "string", "no"}, {"int", "N", "no"}, {"int", "#int", "no"}, {"int", "P", "no"}, {"int", "[]int", "no"}, {"X", "X", "# | #"}, {"X", "P", "no"}, {"X", "int", "no"}, {"#int", "#int", "# | #"}, {"#int", "#string", "no"}, {"#int", "int", "no"}, {"#nothing", "#nothing", "# | #"}, {"#nothing", "int", "no"}, {"#nothing", "#", "no"},

		{"#", "#", "no"}, {"#", "int", "no"}, {"P", "#", "no"}, {"int", "#", "no"}, {"O", "O", "no"}, {"O", "int", "no"}, {"P", "O", "no"}, {"P", "[]O", "no"}, {"[]O", "[]O", "no"}, {"P", "M", "no"}, {"M", "M", "no"}, {"M", "int", "no"}, {"P", "M[int, int]", "no"}, {"L[M]", "L[M]", "no"}, {"V[M]", "int", "no"}, {"P", "L[O]", "no"}, {"[]P", "Q0", "no"}, {"P", "Q0", "Q0 | #"}, {"func(P, []Q)", "Q1", "no"}, {"func(P, Q)", "Q1", "no"}, {"[]P", "Q2[O]", "no"}, {"[]P", "B", "no"}, {"B", "B", "# | #"}, {"P", "B", "B | #"},
	} {
		got, ok := unify.Fits(definitions(), row(), typ(x.pattern), typ(x.t), all("# | #"))
		told(t, "Fits("+x.pattern+", "+x.t+")", got, ok, x.want)
	}
}

// P12.1: what stands for a parameter already fits just what is the same in full; it is told in full, too.
func TestFitsBy(t *testing.T) {
	for _, x := range []struct{ pattern, t, by, want string }{
		{"P", "int", "int | #", "int | #"}, {"P", "int", "# | string", "int | string"}, {"P", "int", "I | #", "int | #"}, {"P", "I", "int | #", "int | #"}, {"P", "A", "[]N | []T", "[]N | []T"}, {"P", "[]N", "A | #", "[]N | #"},
		{"P", "int", "string | #", "no"}, {"P", "int", "N | #", "no"}, {"P", "N", "int | #", "no"}, {"P", "R", "[]T | #", "no"}, {"P", "[]T", "R | #", "no"}, {"P", "K", "R | #", "no"}, {"Q", "int", "int | string", "no"}, {"P", "L[N]", "L[int] | #", "no"}, {"P", "L[N]", "M[N] | T", "L[N] | T"},
		{"P", "P", "P | #", "P | #"}, {"P", "Q", "P | #", "no"}, {"P", "P", "Q | #", "no"}, {"P", "P", "# | P", "P | P"}, {"P", "int", "#int | #", "no"}, {"P", "#int", "#int | #", "#int | #"}, {"P", "#int", "int | #", "no"}, {"P", "#nothing", "#nothing | #", "#nothing | #"}, {"P", "S", "S | #", "S | #"}, {"P", "U", "U | #", "U | #"}, {"P", "unknown", "unknown | #", "unknown | #"},
		{"[]P", "R", "T | #", "T | #"}, {"[]P", "R", "string | #", "no"}, {"func(P) Q", "F", "int | #", "int | T"}, {"func(P) Q", "F", "# | T", "int | T"}, {"func(P) Q", "F", "# | int", "no"}, {"func(Q) P", "F", "T | int", "T | int"}, {"L[P]", "M[A]", "A | #", "[]N | #"}, {"W[P]", "R", "AR | #", "no"},
		{"int", "int", "A | M[N]", "[]N | L[N]"}, {"int", "int", "int | #", "int | #"}, {"int", "string", "int | #", "no"}, {"[]int", "[]int", "# | V[T]", "# | int"}, {"int", "int", "unknown[A] | X", "unknown[[]N] | X"},
		{"P", "int", "O | #", "int | #"}, {"P", "int", "M | O", "int | #"}, {"int", "int", "O | M", "# | #"}, {"int", "int", "[]O | B", "# | B"}, {"P", "O", "int | #", "no"}, {"P", "O", "O | #", "no"}, {"P", "#", "# | #", "no"},
	} {
		got, ok := unify.Fits(definitions(), row(), typ(x.pattern), typ(x.t), all(x.by))
		told(t, "Fits("+x.pattern+", "+x.t+") by "+x.by, got, ok, x.want)
	}
	odd := []kinds.Type{{Name: "int"}, defs.Make(0, "x", typ("int"))} // of kind 0: nothing stands there, whatever else it says
	got, ok := unify.Fits(nil, row(), typ("P"), typ("N"), odd)
	told(t, "Fits by kinds 0 with names", got, ok, "N | #")
}

// P12.1: there are as many types as parameters, all of which have different names.
func TestFitsRow(t *testing.T) {
	for _, x := range []struct{ row, by, want string }{
		{"", "", ""}, {"P", "#", "int"}, {"Q", "#", "no"}, {"P Q X", "# | # | int", "int | # | int"}, {"X Q P", "A | # | #", "[]N | # | int"}, {"P _", "# | #", "int | #"},
		{"", "#", "no"}, {"P", "", "no"}, {"P", "# | #", "no"}, {"P Q", "#", "no"}, {"P Q", "# | # | #", "no"},
		{"P P", "# | #", "no"}, {"P P", "int | int", "no"}, {"Q P Q", "# | # | #", "no"}, {"P _ _", "# | # | #", "no"}, {"P Q Q", "# | #", "no"},
	} {
		pattern := "P"
		if x.row == "" {
			pattern = "int"
		}
		got, ok := unify.Fits(definitions(), strings.Fields(x.row), typ(pattern), typ("int"), all(x.by))
		told(t, "Fits, of the row "+x.row+" by "+x.by, got, ok, x.want)
	}
	got, ok := unify.Fits(nil, []string{"", "int"}, defs.Make(6, "", defs.Make(4, ""), defs.Make(1, "int"), defs.Make(4, "int")), defs.Make(6, "", typ("N"), typ("int"), typ("T")), all("# | #"))
	told(t, "Fits, of a row of other names", got, ok, "N | T")
	if got, ok := unify.Fits(nil, []string{"", ""}, typ("int"), typ("int"), all("# | #")); ok || len(got) > 0 {
		t.Error("P12.1: Fits, of one name twice")
	}
}

// P12.1: kinds that have no parts to fit, and what has no right form.
func TestFitsKinds(t *testing.T) {
	p, integer, text := typ("P"), typ("int"), typ("string")
	for _, x := range []struct {
		pattern, t kinds.Type
		want       string
	}{
		{defs.Make(8, "a", integer), defs.Make(8, "a", integer), "# | #"}, {defs.Make(8, "a", p), defs.Make(8, "a", p), "# | #"}, // in a struct nothing is a parameter of the row
		{defs.Make(8, "a", p), defs.Make(8, "a", integer), "no"}, {defs.Make(8, "a", integer), defs.Make(8, "b", integer), "no"}, {defs.Make(8, "a", integer), defs.Make(8, "a", typ("I")), "# | #"}, {defs.Make(8, "a", integer), typ("S"), "no"}, {typ("S"), defs.Make(8, "a", integer), "no"}, {p, defs.Make(8, "a", integer), "#struct"},
		{defs.Make(1, "int", p), defs.Make(1, "int", integer), "no"}, {defs.Make(1, "int", p), defs.Make(1, "int", p), "# | #"}, {defs.Make(7, "", p), defs.Make(7, "", integer), "no"}, {defs.Make(4, "X", p), defs.Make(4, "X", integer), "no"}, {defs.Make(4, "X", p), defs.Make(4, "X", p), "# | #"}, {defs.Make(9, "", p), defs.Make(9, "", integer), "no"}, {defs.Make(9, "", p), defs.Make(9, "", p), "# | #"}, {defs.Make(-1, ""), defs.Make(-1, ""), "# | #"},
		{defs.Make(4, "P", integer), text, "string | #"}, {defs.Make(3, "P"), text, "no"}, {defs.Make(3, "P"), defs.Make(3, "P"), "# | #"}, {defs.Make(1, "P"), text, "no"},
		{defs.Make(5, ""), defs.Make(5, ""), "# | #"}, {defs.Make(5, "", p, p), defs.Make(5, "", text, text), "string | #"}, {defs.Make(5, "", p, p), defs.Make(5, "", text, integer), "no"}, {defs.Make(5, "", p), defs.Make(5, "", text, text), "no"}, {defs.Make(5, "", p, p), typ("R"), "no"}, {defs.Make(5, ""), typ("R"), "no"},
		{defs.Make(6, ""), defs.Make(6, ""), "# | #"}, {defs.Make(6, "", p), defs.Make(6, "", text), "string | #"}, {defs.Make(6, "", p), defs.Make(5, "", text), "no"}, {defs.Make(5, "", p), defs.Make(6, "", text), "no"},
		{defs.Make(5, "a", p), defs.Make(5, "a", text), "string | #"}, {defs.Make(5, "a", p), defs.Make(5, "", text), "no"}, {defs.Make(5, "", p), defs.Make(5, "a", text), "no"}, {defs.Make(6, "a", p), defs.Make(6, "", text), "no"}, // with other names they are not the same
	} {
		got, ok := unify.Fits(definitions(), row(), x.pattern, x.t, all("# | #"))
		if x.want == "#struct" {
			if !ok || defs.Written(got[0]) != defs.Written(x.t) {
				t.Errorf("P12.1: Fits a struct: %v, %t", got, ok)
			}
			continue
		}
		told(t, "Fits("+defs.Written(x.pattern)+", "+defs.Written(x.t)+")", got, ok, x.want)
	}
}

// P12.1: 100 may be within one another, as they are handed in.
func TestFitsDeep(t *testing.T) {
	integer, p := typ("int"), typ("P")
	for _, x := range []struct {
		what       string
		pattern, t kinds.Type
		want       bool
	}{
		{"100 and 100", defs.Slices(99, p), defs.Slices(99, integer), true},
		{"101 and 101", defs.Slices(100, p), defs.Slices(100, integer), false},
		{"1 and 100", p, defs.Slices(99, integer), true},
		{"1 and 101", p, defs.Slices(100, integer), false},
		{"1 and 10000", p, defs.Slices(9999, integer), false},
		{"10000 and 1", defs.Slices(9999, p), integer, false},
		{"100 in a function", defs.Make(6, "", p, defs.Slices(98, integer)), defs.Make(6, "", integer, defs.Slices(98, integer)), true},
		{"101 in a function", defs.Make(6, "", p, defs.Slices(99, integer)), defs.Make(6, "", integer, defs.Slices(99, integer)), false},
		{"100 in a parameter that is replaced", defs.Make(4, "P", defs.Slices(98, integer)), integer, true},
		{"101 in a parameter that is replaced", defs.Make(4, "P", defs.Slices(99, integer)), integer, false},
		{"100 in what is no type in full", defs.Make(3, "V", defs.Slices(98, p)), integer, true},
		{"101 in what is no type in full", defs.Make(3, "V", defs.Slices(99, p)), integer, false},
		{"101 in the type, that are none in full", p, defs.Make(3, "V", defs.Slices(99, integer)), false},
		{"100 and a named one of itself", defs.Slices(99, p), typ("UU"), true},
	} {
		got, ok := unify.Fits(definitions(), row(), x.pattern, x.t, all("# | #"))
		if ok != x.want || (len(got) > 0) != x.want {
			t.Errorf("P12.1: Fits, %s within one another: %v", x.what, ok)
		}
	}
}

// P12.1: in full there may be more, as long as it does not come to them.
func TestFitsDeepInFull(t *testing.T) {
	integer, p := typ("int"), typ("P")
	l := append(definitions(), kinds.Def{Name: "A60", Params: []string{"X"}, Type: defs.Slices(60, defs.Make(4, "X")), Alias: true}, kinds.Def{Name: "N60", Params: []string{"X"}, Type: defs.Slices(60, defs.Make(4, "X"))})
	alias := func(slices int, t kinds.Type) kinds.Type { return defs.Make(3, "A60", defs.Slices(slices, t)) }
	behind := func(slices int, t kinds.Type) kinds.Type { return defs.Make(3, "N60", defs.Slices(slices, t)) }
	function := func(l ...kinds.Type) kinds.Type { return defs.Make(6, "", l...) }
	for _, x := range []struct {
		what       string
		pattern, t kinds.Type
		want       bool
	}{
		{"100 parts of slices", alias(39, p), alias(39, integer), true},
		{"101 parts of slices", alias(40, p), alias(40, integer), false},
		{"a parameter at 100, and more within its type", alias(39, p), alias(80, integer), true},
		{"a parameter at 101", alias(40, p), alias(80, integer), false},
		{"160 slices for a parameter", p, alias(98, integer), true},
		{"100 parts behind a named one", defs.Slices(99, p), behind(39, integer), true},
		{"100 parts behind a named one, and in full", alias(39, p), behind(39, integer), true},
		{"101 parts behind a named one", alias(40, p), behind(40, integer), false},
		{"a named one within", defs.Slices(70, p), defs.Slices(10, behind(30, integer)), true},
		{"100 parts of functions", function(p, alias(38, integer)), function(integer, alias(38, integer)), true},
		{"101 parts of functions", function(p, alias(39, integer)), function(integer, alias(39, integer)), false},
		{"100 parts in named ones", defs.Make(3, "L", alias(38, p)), defs.Make(3, "L", alias(38, integer)), true},
		{"101 parts in named ones", defs.Make(3, "L", alias(39, p)), defs.Make(3, "L", alias(39, integer)), false},
		{"other parts ahead of the 101st", function(integer, alias(80, p)), function(p, alias(80, integer)), false},
		{"100 that are the same as what stands there", function(p, p), function(alias(39, integer), alias(39, integer)), true},
		{"101 that are the same as what stands there", function(p, p), function(alias(40, integer), alias(40, integer)), false},
		{"100 in a struct", defs.Make(8, "a", alias(38, integer)), defs.Make(8, "a", alias(38, integer)), true},
		{"101 in a struct", defs.Make(8, "a", alias(39, integer)), defs.Make(8, "a", alias(39, integer)), false},
	} {
		got, ok := unify.Fits(l, row(), x.pattern, x.t, all("# | #"))
		if ok != x.want || (len(got) > 0) != x.want {
			t.Errorf("P12.1: Fits, %s: %v", x.what, ok)
		}
	}
	got, ok := unify.Fits(l, row(), p, alias(98, integer), all("# | #"))
	if !ok || defs.Written(got[0]) != defs.Written(defs.Slices(158, integer)) {
		t.Errorf("P12.1: Fits, 160 slices for a parameter: %t", ok)
	}
	by := []kinds.Type{alias(98, integer), defs.Slices(9999, integer)} // nobody asks how deep they are
	got, ok = unify.Fits(l, row(), integer, integer, by)
	if !ok || defs.Written(got[0]) != defs.Written(defs.Slices(158, integer)) || defs.Written(got[1]) != defs.Written(by[1]) {
		t.Errorf("P12.1: Fits by deep types: %t", ok)
	}
}

// P12.1: the limits of a type in full, and of what stands behind it, hold for pattern and type.
func TestFitsGreat(t *testing.T) {
	p, great := typ("P"), defs.Function(19997) // so many and 2 types
	l := append(definitions(), kinds.Def{Name: "Great", Type: defs.Slices(1, defs.Function(19996))}, kinds.Def{Name: "Greater", Type: defs.Slices(1, great)})
	for _, x := range []struct {
		what       string
		pattern, t kinds.Type
		want       bool
	}{
		{"19,999 types", p, great, true}, {"20,000 types", p, defs.Function(19998), false}, {"19,999 types in a pattern", great, great, true}, {"20,000 types in a pattern", defs.Function(19998), great, false},
		{"1000 types in a named one", defs.Slices(1, p), defs.Make(3, "L", defs.Function(997)), true}, {"1001 types in a named one", defs.Slices(1, p), defs.Make(3, "L", defs.Function(998)), false}, {"1001 types in both", defs.Make(3, "L", p), defs.Make(3, "L", defs.Function(998)), true},
		{"1000 types in full in a named one", defs.Slices(1, p), defs.Make(3, "Q2", defs.Make(6, "", defs.Function(994), typ("A"))), true}, {"1001 types in full in a named one", defs.Slices(1, p), defs.Make(3, "Q2", defs.Make(6, "", defs.Function(995), typ("A"))), false},
		{"19,999 types behind a named one", defs.Slices(1, p), typ("Great"), true}, {"20,000 types behind a named one", defs.Slices(1, p), typ("Greater"), false}, {"a named one behind which there are too many", p, typ("Greater"), true},
	} {
		got, ok := unify.Fits(l, row(), x.pattern, x.t, all("# | #"))
		if ok != x.want || (len(got) > 0) != x.want {
			t.Errorf("P12.1: Fits, %s: %v", x.what, ok)
		}
	}
}
