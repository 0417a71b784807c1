package unify_test

import (
	"strings"
	"testing"

	"demotic/defs"
	"demotic/kinds"
	"demotic/unify"
)

// P12.1: types for a row, of patterns and types.
func TestFind(t *testing.T) {
	for _, x := range []struct{ row, patterns, types, want string }{
		{"", "", "", ""}, {"", "int", "int", ""}, {"", "int | []N", "I | A", ""}, {"", "int", "string", "no"}, {"", "P", "P", ""}, {"", "P", "int", "no"}, {"", "int", "#string", ""},
		{"P", "P", "int", "int"}, {"P", "P", "A", "[]N"}, {"P", "[]P", "R", "T"}, {"P", "[]P", "M[I]", "int"}, {"P", "L[P]", "M[I]", "int"}, {"P", "W[P]", "A", "N"}, {"P", "func(P) P", "func(N) N", "N"}, {"P", "P", "P", "P"}, {"P", "P", "Q", "Q"},
		{"P", "", "", "no"}, {"P", "int", "int", "no"}, {"P", "Q", "Q", "no"}, {"P", "V[P]", "int", "no"}, {"P Q", "P", "int", "no"}, {"P Q", "Q", "int", "no"}, {"P Q", "P | P", "int | int", "no"}, {"P Q X", "func(P) X | P", "func(int) N | int", "no"},
		{"P Q", "P | Q", "int | T", "int | T"}, {"Q P", "P | Q", "int | T", "T | int"}, {"P Q", "Q | P", "int | T", "T | int"}, {"P Q", "func(P) Q", "F", "int | T"}, {"P Q", "P | func(P) Q", "int | F", "int | T"}, {"P Q", "func(P) Q | Q | P", "F | T | int", "int | T"}, {"P Q", "func([]P) Q | P", "H | T", "T | F"},
		{"P", "P | P", "int | I", "int"}, {"P", "P | P", "int | N", "no"}, {"P", "P | P", "N | int", "no"}, {"P", "P | []P", "T | R", "T"}, {"P", "[]P | P", "R | T", "T"}, {"P", "[]P | P", "R | string", "no"}, {"P", "[]P | []P", "R | []T", "T"}, {"P", "P | P", "R | []T", "no"}, {"P", "P | int", "T | int", "T"}, {"P", "P | int", "T | N", "no"}, {"P", "int | P", "N | T", "no"},
		{"P Q", "P | [](Q)", "int | int", "no"}, {"P Q", "P | func(Q)", "int | F", "no"},
		{"P", "P", "O", "no"}, {"P", "P", "#", "no"}, {"P", "P | int", "int | #", "no"}, {"P", "P | #", "int | int", "no"}, {"P", "P | O", "int | int", "no"}, {"P", "P", "#nothing", "#nothing"}, {"P", "[]P", "[]#int", "#int"}, {"P", "[]P | P", "[]#int | #int", "#int"}, {"P", "[]P | P", "[]#int | int", "no"},
		{"P", "P", "int | int", "no"}, {"P", "P | P", "int", "no"}, {"P", "", "int", "no"}, {"", "", "int", "no"}, {"", "int", "", "no"},
		{"P P", "P", "int", "no"}, {"P P", "P | P", "int | int", "no"}, {"_ _", "", "", "no"}, {"P _", "P", "int", "no"}, {"P Q P", "P | Q", "int | int", "no"},
	} {
		got, ok := unify.Find(definitions(), strings.Fields(x.row), all(x.patterns), all(x.types))
		told(t, "Find, of the row "+x.row+", patterns "+x.patterns+", types "+x.types, got, ok, x.want)
	}
}

// P12.1: untyped ones come last, and count just for a parameter of the row for which nothing stands, as it is handed in.
func TestFindUntyped(t *testing.T) {
	for _, x := range []struct{ row, patterns, types, want string }{
		{"P", "P", "#int", "int"}, {"P", "P", "#string", "string"}, {"P", "P", "#bool", "bool"}, {"P Q", "P | Q", "#int | #string", "int | string"}, {"Q P", "P | Q", "#int | #string", "string | int"}, {"P Q", "Q | P", "#int | #int", "int | int"},
		{"P", "P | P", "#int | #int", "int"}, {"P", "P | P", "#int | #string", "no"}, {"P", "P | P", "#bool | #int", "no"}, {"P", "P | P | P", "#int | #int | #bool", "no"}, {"P Q", "P | Q | P", "#int | #bool | #string", "no"}, {"P Q", "P | Q | P | Q", "#int | #bool | #int | #bool", "int | bool"},
		{"P", "P | P", "#int | string", "string"}, {"P", "P | P", "string | #int", "string"}, {"P", "P | P", "#int | int", "int"}, {"P", "P | P", "#int | N", "N"}, {"P", "P | P | P", "#int | R | #string", "R"}, {"P", "P | P | P", "#int | #string | A", "[]N"}, {"P Q", "P | Q | Q", "#int | #int | T", "int | T"},
		{"P", "[]P | P", "R | #int", "T"}, {"P", "P | []P", "#int | R", "T"}, {"P Q", "P | func(P) Q", "#string | F", "int | T"}, {"P Q", "Q | func(P) Q", "#string | func(N)", "N | #nothing"},
		{"P", "[]P", "#int", "no"}, {"P", "[]P | P", "#int | #string", "string"}, {"P", "int | P", "#string | #int", "int"}, {"P", "L[P] | P", "#bool | #int", "int"}, {"P", "# | P", "#bool | #int", "int"}, {"P", "O | P", "#bool | #int", "int"}, {"P", "Q | P", "#bool | #int", "int"}, {"P", "P | Q", "#bool | #int", "bool"},
		{"P", "Y[P]", "#int", "no"}, {"P", "Y[P]", "int", "int"}, {"P", "Y[P] | P", "#string | #int", "int"}, {"P", "Y[P] | Y[P]", "N | #string", "N"}, {"P", "Y[P] | P", "N | #string", "N"},
		{"P", "P | P", "#int | O", "no"}, {"P", "P | int", "#int | string", "no"}, {"P Q", "P", "#int", "no"}, {"P", "P", "#int | #int", "no"}, {"P P", "P | P", "#int | #int", "no"}, {"", "int | P", "#string | #bool", ""},
	} {
		got, ok := unify.Find(definitions(), strings.Fields(x.row), all(x.patterns), all(x.types))
		told(t, "Find, of the row "+x.row+", patterns "+x.patterns+", types "+x.types, got, ok, x.want)
	}
}

// P12.1: an untyped one is asked for its name alone; what is untyped just in full is not.
func TestFindOdd(t *testing.T) {
	p := typ("P")
	loose := defs.Make(2, "int", typ("O"), defs.Slices(200, p))
	for _, x := range []struct {
		what            string
		patterns, types []kinds.Type
		want            string
	}{
		{"an untyped one with types in it", []kinds.Type{p}, []kinds.Type{loose}, "int"},
		{"an untyped one of another name", []kinds.Type{p, p}, []kinds.Type{defs.Make(2, "x"), defs.Make(2, "x")}, "x"},
		{"untyped ones of other names", []kinds.Type{p, p}, []kinds.Type{defs.Make(2, "x"), defs.Make(2, "")}, "no"},
		{"a parameter with types in it", []kinds.Type{defs.Make(4, "P", typ("O"))}, []kinds.Type{typ("#bool")}, "bool"},
		{"what is called as a parameter", []kinds.Type{defs.Make(3, "P"), defs.Make(1, "P"), p}, []kinds.Type{loose, typ("#string"), typ("#bool")}, "bool"},
		{"a pattern that is too deep", []kinds.Type{defs.Slices(200, p), p}, []kinds.Type{loose, typ("#bool")}, "bool"},
		{"an alias of an untyped one", []kinds.Type{p}, []kinds.Type{typ("Loose")}, "#int"},
		{"an alias of an untyped one, and one", []kinds.Type{p, p}, []kinds.Type{typ("#bool"), typ("Loose")}, "#int"},
	} {
		l := append(definitions(), kinds.Def{Name: "Loose", Type: typ("#int"), Alias: true})
		got, ok := unify.Find(l, []string{"P"}, x.patterns, x.types)
		if x.want == "x" {
			if !ok || defs.Written(got[0]) != defs.Written(defs.Make(1, "x")) {
				t.Errorf("P12.1: Find, %s: %v, %t", x.what, got, ok)
			}
			continue
		}
		told(t, "Find, "+x.what, got, ok, x.want)
	}
}

// P12.1: patterns and types that are too deep as they are handed in do not fit.
func TestFindDeep(t *testing.T) {
	p, integer := typ("P"), typ("int")
	for _, x := range []struct {
		slices int
		want   bool
	}{{0, true}, {99, true}, {100, false}, {9999, false}} {
		for _, y := range [][2]kinds.Type{{defs.Slices(x.slices, p), defs.Slices(x.slices, integer)}, {p, defs.Slices(x.slices, integer)}} {
			got, ok := unify.Find(nil, []string{"P"}, []kinds.Type{y[0], p}, []kinds.Type{y[1], typ("#bool")})
			if ok != x.want || (len(got) > 0) != x.want {
				t.Errorf("P12.1: Find, in %d slices: %t", x.slices, ok)
			}
		}
	}
}
