package kinds_test

import (
	"strconv"
	"strings"
	"testing"

	"demotic/defs"
	"demotic/kinds"
)

// typ makes a type.
func typ(kind int, name string, args ...kinds.Type) kinds.Type { return defs.Make(kind, name, args...) }

// is checks that a type is what it is to be.
func is(t *testing.T, what string, got, want kinds.Type) {
	t.Helper()
	if defs.Written(got) != defs.Written(want) {
		t.Errorf("%s: %.300s, not %.300s", what, defs.Written(got), defs.Written(want))
	}
}

// nothing is what is told where there is none.
var nothing = kinds.Type{}

// one tells types of all kinds, and some of none, of which all are different.
func one() []kinds.Type {
	integer, p := typ(1, "int"), typ(4, "P")
	return []kinds.Type{
		nothing, integer, typ(1, "string"), typ(1, ""), typ(2, "int"), typ(3, "int"), typ(3, ""), typ(4, "int"), typ(5, "int"), typ(6, "int"), typ(7, "int"), typ(8, "int"), typ(9, "int"), typ(-1, "int"),
		typ(1, "int", integer), typ(3, "N", integer), typ(3, "N", p), typ(3, "M", integer), typ(3, "N", integer, p), typ(3, "N", p, integer), typ(3, "N", integer, p, p),
		typ(5, ""), typ(5, "", integer), typ(5, "", p), typ(5, "", integer, p), typ(5, "", typ(5, "", integer)), typ(6, "", integer), typ(6, "", integer, typ(7, "")), typ(6, "", typ(7, ""), integer),
		typ(7, ""), typ(8, ""), typ(8, "a", integer), typ(8, "b", integer), typ(8, "a,b", integer, p), typ(8, "a,b", integer, integer),
	}
}

// P10.1: which are the same.
func TestSame(t *testing.T) {
	for i, a := range one() {
		for j, b := range one() {
			if kinds.Same(a, b) != (i == j) {
				t.Errorf("P10.1: Same(%s, %s): %t", defs.Written(a), defs.Written(b), i != j)
			}
		}
		if !kinds.Same(defs.Slices(99, typ(a.Kind, a.Name)), defs.Slices(99, typ(a.Kind, a.Name))) {
			t.Errorf("P10.1: %s within 99 is not the same", defs.Written(a))
		}
	}
	if !kinds.Same(kinds.Type{Kind: 5, Args: []kinds.Type{}}, kinds.Type{Kind: 5}) {
		t.Error("R3: an empty list is not the same as none")
	}
}

// P10.1: no type of more than 100 within one another is the same as anything.
func TestSameDeep(t *testing.T) {
	for _, x := range []struct {
		slices int
		want   bool
	}{{0, true}, {98, true}, {99, true}, {100, false}, {101, false}, {9999, false}} {
		d := defs.Slices(x.slices, typ(1, "int"))
		if kinds.Same(d, d) != x.want || kinds.Same(typ(6, "", typ(1, "int"), d), typ(6, "", typ(1, "int"), d)) != (x.want && x.slices < 99) {
			t.Errorf("P10.1: in %d slices: %t", x.slices, !x.want)
		}
	}
	if kinds.Same(defs.Slices(99, typ(1, "int")), defs.Slices(99, typ(1, "bool"))) || kinds.Same(defs.Slices(99, typ(1, "int")), defs.Slices(98, typ(1, "int"))) {
		t.Error("P10.1: two that are not the same")
	}
}

// P10.1: with types for parameters.
func TestWith(t *testing.T) {
	p, q, r, integer, text := typ(4, "P"), typ(4, "Q"), typ(4, "R"), typ(1, "int"), typ(1, "string")
	for _, x := range []struct {
		t      kinds.Type
		params string
		by     []kinds.Type
		want   kinds.Type
	}{
		{p, "P", []kinds.Type{integer}, integer},
		{p, "", nil, p},
		{p, "P", nil, p},
		{p, "", []kinds.Type{integer}, p},
		{p, "Q", []kinds.Type{integer}, p},
		{p, "P P", []kinds.Type{integer, text}, integer},
		{q, "P P Q", []kinds.Type{integer, text, p}, p},
		{q, "P Q", []kinds.Type{integer}, q},
		{p, "P Q", []kinds.Type{integer}, integer},
		{q, "P", []kinds.Type{integer, text}, q},
		{typ(6, "", p, q, r), "P Q", []kinds.Type{q, p}, typ(6, "", q, p, r)},
		{typ(6, "", p, q, p), "P Q", []kinds.Type{typ(5, "", p), typ(3, "N", q)}, typ(6, "", typ(5, "", p), typ(3, "N", q), typ(5, "", p))},
		{typ(3, "P", p, typ(3, "P")), "P", []kinds.Type{integer}, typ(3, "P", integer, typ(3, "P"))},
		{typ(1, "P", p), "P", []kinds.Type{text}, typ(1, "P", text)},
		{typ(2, "P"), "P", []kinds.Type{text}, typ(2, "P")},
		{typ(8, "P,b", p, typ(5, "", typ(5, "", p))), "P", []kinds.Type{text}, typ(8, "P,b", text, typ(5, "", typ(5, "", text)))},
		{typ(4, "P", q), "P Q", []kinds.Type{text, integer}, text},
		{typ(4, "R", q), "P Q", []kinds.Type{text, integer}, typ(4, "R", integer)},
		{typ(0, "P", p), "P", []kinds.Type{nothing}, typ(0, "P", nothing)},
		{defs.Slices(9999, p), "P", []kinds.Type{defs.Slices(9999, q)}, defs.Slices(19998, q)},
	} {
		is(t, "P10.1: With", kinds.With(x.t, strings.Fields(x.params), x.by), x.want)
	}
}

// declared are definitions for the tables.
const declared = `
type N int; type T string; type B bool; type C N
type A = []N; type I = int; type X = N; type Y = X
type L[P any] []P; type M[P any] = L[P]; type F[P any, Q any] func(P, []Q) Q
type G[P any, Q any] = func(Q, M[P]) G0; type G0 = func(X); type U[P any] int; type V[P any] = int
type D A; type E L[A]; type K M[X]
type S struct { a X; b []A }; type Z[P any] struct { P P; q A }
type R R; type O = O; type R1 R2; type R2 = R1; type O1 = []O1; type O2 = U[O2]; type Q []Q
type W1 M; type W2 = N[int]; type W3 U[W2]; type W4 L; type W5 N[int]
type H[P any] H[[]P]; type J[P any] = func(J[[]P]); type N2 NO
`

// definitions are these, and then others of the same names, which don't count.
func definitions() []kinds.Def {
	return append(defs.Of(declared), defs.Of("type N []int; type A int; type L[P any, Q any] = P; type NO = int; type NO bool")...)
}

// P10.1: aliases in full.
func TestFull(t *testing.T) {
	for _, x := range []struct{ t, want string }{
		{"int", "int"}, {"[]bool", "[]bool"}, {"func(int)", "func(int)"}, {"N", "N"}, {"C", "C"}, {"A", "[]N"}, {"I", "int"}, {"X", "N"}, {"Y", "N"}, {"[]A", "[][]N"},
		{"L[int]", "L[int]"}, {"L[A]", "L[[]N]"}, {"M[int]", "L[int]"}, {"M[A]", "L[[]N]"}, {"M[M[M[X]]]", "L[L[L[N]]]"}, {"func(A, X) Y", "func([]N, N) N"},
		{"F[A, I]", "F[[]N, int]"}, {"G[A, X]", "func(N, L[[]N]) func(N)"}, {"G[G0, M[A]]", "func(L[[]N], L[func(N)]) func(N)"}, {"V[A]", "int"}, {"V[R]", "int"}, {"U[A]", "U[[]N]"},
		{"D", "D"}, {"S", "S"}, {"Z[A]", "Z[[]N]"}, {"R", "R"}, {"R1", "R1"}, {"R2", "R1"}, {"Q", "Q"}, {"W1", "W1"}, {"W3", "W3"}, {"H[X]", "H[N]"}, {"N2", "N2"},
		{"L", "L"}, {"N[int]", "N[int]"}, {"N[X]", "N[N]"}, {"L[A, X]", "L[[]N, N]"}, {"unknown", "unknown"}, {"unknown[A]", "unknown[[]N]"}, {"NO", "int"}, {"W2", "N[int]"}, {"func(int, []W2)", "func(int, []N[int])"},
		{"O", ""}, {"[]O", ""}, {"O1", ""}, {"O2", ""}, {"A[int]", ""}, {"M", ""}, {"M[int, int]", ""}, {"G[int]", ""}, {"V", ""}, {"V[O]", ""}, {"V[M]", ""}, {"L[O]", ""}, {"unknown[M]", ""}, {"J[int]", ""}, {"func(int, []M)", ""}, {"func() O", ""},
	} {
		want := nothing
		if x.want != "" {
			want = defs.Type(x.want)
		}
		is(t, "P10.1: Full, "+x.t, kinds.Full(definitions(), defs.Type(x.t)), want)
	}
}

// P10.1: in full types of all kinds stay, and what is in them is in full.
func TestFullKinds(t *testing.T) {
	l := defs.Of("type A = []int; type int = string; type P = bool")
	for kind := -1; kind < 11; kind++ {
		for _, name := range []string{"", "A", "int", "P"} {
			want := typ(kind, name, defs.Type("[]int"), typ(4, "P"))
			if kind != 3 || name == "" {
				is(t, "P10.1: Full", kinds.Full(l, typ(kind, name, typ(3, "A"), typ(4, "P"))), want)
			}
		}
	}
	is(t, "P10.1: Full", kinds.Full(nil, nothing), nothing)
	is(t, "P10.1: Full of a parameter of the same name", kinds.Full(defs.Of("type A[P any] = func(P) B[P]; type B[Q any] = func(Q)"), typ(3, "A", typ(4, "Q"))), typ(6, "", typ(4, "Q"), typ(6, "", typ(4, "Q"), typ(7, ""))))
	is(t, "P10.1: Full of parameters that change places", kinds.Full(defs.Of("type A[P any, Q any] = B[Q, P]; type B[P any, Q any] = func(P) Q"), typ(3, "A", typ(4, "P"), typ(4, "Q"))), typ(6, "", typ(4, "Q"), typ(4, "P")))
}

// chain declares A1 to Ak, each of which is the next one, and what the last one is.
func chain(k int, declaration, last string) []kinds.Def {
	var s strings.Builder
	for i := range k {
		next := "A" + strconv.Itoa(i+2)
		if i == k-1 {
			next = last
		}
		s.WriteString(strings.NewReplacer("#", "A"+strconv.Itoa(i+1), "@", next).Replace(declaration) + ";")
	}
	return defs.Of(s.String())
}

// P10.1: 100 names of aliases may be within one another.
func TestFullWithin(t *testing.T) {
	a := typ(3, "A1")
	is(t, "P10.1: 100 aliases", kinds.Full(chain(100, "type # = @", "int"), a), typ(1, "int"))
	is(t, "P10.1: 101 aliases", kinds.Full(chain(101, "type # = @", "int"), a), nothing)
	is(t, "P10.1: 99 aliases, and others beside", kinds.Full(chain(99, "type # = @", "B[B[B[C]]]; type B[P any] = []P; type C = int"), a), defs.Slices(3, typ(1, "int")))
	is(t, "P10.1: 99 aliases, and two within one another", kinds.Full(chain(99, "type # = @", "B[C]; type B[P any] = D; type C = int; type D = int"), a), nothing)
	is(t, "P10.1: 100 aliases, and one in what is given", kinds.Full(chain(100, "type # = @", "[]B; type B = int"), a), nothing)
	is(t, "P10.1: 100 aliases with slices", kinds.Full(chain(100, "type # = []@", "int"), a), defs.Slices(100, typ(1, "int")))
	is(t, "P10.1: 100 aliases with types", kinds.Full(chain(100, "type #[P any] = @[P]", "L"), typ(3, "A1", typ(1, "int"))), typ(3, "L", typ(1, "int")))
	is(t, "P10.1: 101 aliases with types", kinds.Full(chain(101, "type #[P any] = @[P]", "L"), typ(3, "A1", typ(1, "int"))), nothing)
	given := typ(1, "int")
	for range 150 {
		given = typ(3, "A1", given)
	}
	is(t, "P10.1: aliases that are given", kinds.Full(defs.Of("type A1[P any] = []P"), given), defs.Slices(150, typ(1, "int")))
	is(t, "P10.1: what is not an alias", kinds.Full(chain(100, "type # = @", "N; type N M; type M = N"), a), typ(3, "N"))
}

// P10.1: fewer than 20,000 types may be looked at.
func TestFullLooked(t *testing.T) {
	for _, x := range []struct {
		declarations, t string
		times, others   int // how often what stands for P is looked at, and what else is
	}{
		{"", "P", 1, 0},
		{"", "[]P", 1, 1},
		{"type A = int", "func(P) A", 1, 3},
		{"type A = [][]int", "func(A, P, A)", 1, 10},
		{"type A = B; type B = C; type C = int", "func(A, P)", 1, 6},
		{"type A[Q any] = int", "A[P]", 1, 2},
		{"type A[Q any] = []Q", "A[P]", 2, 2},
		{"type A[Q any] = B[Q]; type B[Q any] = C[Q]; type C[Q any] = Q", "A[P]", 4, 3},
		{"type A[Q any] = func(Q, Q)", "A[P]", 3, 3},
		{"type N A; type A = [][][]int", "func(P) N", 1, 2},
		{"type A[P any] = []P", "L[A[[]A[P]]]", 3, 8},
	} {
		l, whole := defs.Of(x.declarations), defs.Type(x.t, "P")
		for room := 19990; room <= 20010; room++ {
			size := (room - x.others) / x.times
			looked := x.others + x.times*size
			got := kinds.Full(l, kinds.With(whole, []string{"P"}, []kinds.Type{defs.Function(size - 2)}))
			if (got.Kind == 0) != (looked >= 20000) {
				t.Errorf("P10.1: Full, %s, of %s, %d types are looked at: kind %d", x.declarations, x.t, looked, got.Kind)
			}
		}
	}
	is(t, "P10.1: aliases that double", kinds.Full(chain(99, "type # = func(@, @)", "int"), typ(3, "A1")), nothing)
	is(t, "P10.1: a type that is too deep", kinds.Full(nil, defs.Slices(19999, typ(1, "int"))), nothing)
	is(t, "P10.1: a deep type", kinds.Full(nil, defs.Slices(19998, typ(1, "int"))), defs.Slices(19998, typ(1, "int")))
}

// P10.1: what stands behind a type.
func TestBehind(t *testing.T) {
	for _, x := range []struct{ t, want string }{
		{"int", "int"}, {"[]A", "[]A"}, {"func(A) X", "func(A) X"}, {"N", "int"}, {"T", "string"}, {"C", "int"}, {"A", "[]N"}, {"I", "int"}, {"X", "int"}, {"Y", "int"},
		{"L[A]", "[]A"}, {"M[A]", "[]A"}, {"M[M[X]]", "[]M[X]"}, {"F[A, X]", "func(A, []X) X"}, {"G[A, X]", "func(X, M[A]) G0"}, {"U[O]", "int"}, {"V[O]", "int"}, {"U[unknown]", "int"},
		{"D", "[]N"}, {"E", "[]A"}, {"K", "[]X"}, {"Q", "[]Q"}, {"O1", "[]O1"}, {"O2", "int"}, {"W3", "int"}, {"J[X]", "func(J[[]X])"},
		{"R", ""}, {"O", ""}, {"R1", ""}, {"R2", ""}, {"H[int]", ""}, {"unknown", ""}, {"unknown[int]", ""}, {"N2", "int"},
		{"L", ""}, {"N[int]", ""}, {"L[int, int]", ""}, {"M", ""}, {"W1", ""}, {"W2", ""}, {"W4", ""}, {"W5", ""}, {"U", ""}, {"V", ""},
	} {
		want := nothing
		if x.want != "" {
			want = defs.Type(x.want)
		}
		is(t, "P10.1: Behind, "+x.t, kinds.Behind(definitions(), defs.Type(x.t)), want)
	}
	is(t, "P10.1: Behind S", kinds.Behind(definitions(), typ(3, "S")), typ(8, "a,b", typ(3, "X"), typ(5, "", typ(3, "A"))))
	is(t, "P10.1: Behind Z", kinds.Behind(definitions(), typ(3, "Z", typ(3, "X"))), typ(8, "P,q", typ(3, "X"), typ(3, "A")))
}

// P10.1: behind what is not named it stands itself.
func TestBehindKinds(t *testing.T) {
	l := defs.Of("type A = []int; type int = string; type P = bool")
	for kind := -1; kind < 11; kind++ {
		if want := typ(kind, "A", typ(3, "A"), typ(4, "P")); kind != 3 {
			is(t, "P10.1: Behind", kinds.Behind(l, want), want)
		}
	}
	is(t, "P10.1: Behind", kinds.Behind([]kinds.Def{{Name: "N", Type: typ(2, "int", typ(3, "N"))}}, typ(3, "N")), typ(2, "int", typ(3, "N")))
	is(t, "P10.1: Behind", kinds.Behind([]kinds.Def{{Type: typ(4, "P")}}, typ(3, "")), typ(4, "P"))
	is(t, "P10.1: Behind, with two parameters of one name", kinds.Behind([]kinds.Def{{Name: "N", Params: []string{"P", "P"}, Type: typ(4, "P")}}, typ(3, "N", typ(1, "int"), typ(1, "bool"))), typ(1, "int"))
}

// P10.1: there are fewer than 100 steps, none of a named type with more than 1000 types in it.
func TestBehindSteps(t *testing.T) {
	a := typ(3, "A1")
	for _, sign := range []string{"", "= "} {
		is(t, "P10.1: 99 steps", kinds.Behind(chain(99, "type # "+sign+"@", "[]A1"), a), typ(5, "", a))
		is(t, "P10.1: 100 steps", kinds.Behind(chain(100, "type # "+sign+"@", "[]A1"), a), nothing)
		is(t, "P10.1: 99 steps, and a name", kinds.Behind(chain(99, "type # "+sign+"@", "unknown"), a), nothing)
		for _, x := range []struct {
			declarations, t string
			most            int // types that may be in what stands for P
		}{
			{"type N[P any] #int", "N[P]", 999},
			{"type N[P any] #int", "N[[]P]", 998},
			{"type A[P any] #N[P, P, P]; type N[P any, Q any, R any] int", "A[P]", 333},
			{"type B[P any] #N[func(P, P, P) P]; type N[P any] int", "B[P]", 249},
		} {
			l := defs.Of(strings.ReplaceAll(x.declarations, "#", sign))
			for size := x.most - 2; size <= x.most+2; size++ {
				want := nothing
				if size <= x.most {
					want = typ(1, "int")
				}
				given := kinds.With(defs.Type(x.t, "P"), []string{"P"}, []kinds.Type{defs.Function(size - 2)})
				is(t, "P10.1: Behind "+x.t+" with "+strconv.Itoa(size)+" types", kinds.Behind(l, given), want)
			}
		}
	}
	is(t, "P10.1: what is not named may be great", kinds.Behind(nil, defs.Function(3000)), defs.Function(3000))
	is(t, "P10.1: what comes of the last step may be great", kinds.Behind([]kinds.Def{{Name: "A1", Type: defs.Function(3000)}}, a), defs.Function(3000))
	is(t, "P10.1: what doubles", kinds.Behind(chain(50, "type #[P any] @[func(P, P)]", "L"), typ(3, "A1", typ(1, "int"))), nothing)
}

// P10.1: which are comparable, and which ordered.
func TestComparable(t *testing.T) {
	for _, x := range []struct {
		names               string
		comparable, ordered bool
	}{
		{"int string N T C I X Y U[A] U[O] V[O] O2 W3", true, true},
		{"bool B", true, false},
		{"A D E K S Q L[int] M[int] F[int,int] G[int,int] Z[int] R O R1 R2 O1 H[int] W1 W2 W4 W5 L M U V N[int] unknown unknown[int]", false, false},
	} {
		for _, s := range strings.Fields(x.names) {
			if kinds.Comparable(definitions(), defs.Type(s)) != x.comparable || kinds.Ordered(definitions(), defs.Type(s)) != x.ordered {
				t.Errorf("P10.1: Comparable of %s: %t; Ordered: %t", s, !x.comparable, !x.ordered)
			}
		}
	}
	l := []kinds.Def{{Name: "A", Type: typ(1, "")}, {Name: "S", Type: typ(8, "a", typ(1, "int"))}}
	for _, x := range one() {
		if kinds.Comparable(l, x) != (x.Kind == 1) || kinds.Ordered(l, x) != (x.Kind == 1) {
			t.Errorf("P10.1: Comparable, Ordered of %s", defs.Written(x))
		}
	}
	if !kinds.Comparable(l, typ(3, "A")) || !kinds.Ordered(l, typ(3, "A")) || kinds.Comparable(l, typ(3, "S")) || kinds.Ordered(nil, typ(1, "bool")) || !kinds.Comparable(nil, typ(1, "bool")) {
		t.Error("P10.1: Comparable, Ordered")
	}
}

// P10.1: one may be assigned just to those of its own row, and, where it is neither basic, nor named, nor a parameter, or the other one isn't, to those beside it in a row of types behind which the same stands.
func TestAssigns(t *testing.T) {
	rows := [][]string{ // those of each row are the same in full
		{"int", "I", "V[Q1]", "V[[]int]"}, {"N", "X", "Y"}, {"C"}, {"string"}, {"T"}, {"bool"}, {"B"}, {"U[A]", "U[[]N]"}, {"U[int]"}, {"P"}, {"Q"},
		{"A", "[]N", "[]X"}, {"L[N]", "M[X]"}, {"D"}, {"K"}, {"[]int", "[]I"}, {"[]A", "[][]N"}, {"E"}, {"Q1"}, {"[]Q1"}, {"[]P"}, {"L[P]"},
		{"func(A, X) []N", "func([]N, N) A"}, {"FN"}, {"func()"}, {"S"}, {"Z[int]"}, {"R"}, {"R1", "R2"}, {"unknown"}, {"L[int, int]"}, {"unknown[X]", "unknown[N]"},
	}
	same := map[string]string{ // where something stands behind a name that some unnamed type is, too
		"L[N]": "A", "M[X]": "A", "D": "A", "A": "A", "[]N": "A", "[]X": "A", "K": "A", "L[P]": "L[P]", "[]P": "L[P]", "E": "E", "[]A": "E", "[][]N": "E",
		"Q1": "Q1", "[]Q1": "Q1", "func(A, X) []N": "FN", "func([]N, N) A": "FN", "FN": "FN",
	}
	unnamed := map[string]bool{"A": true, "[]N": true, "[]X": true, "[]P": true, "[]A": true, "[][]N": true, "[]Q1": true, "func(A, X) []N": true, "func([]N, N) A": true}
	l := append(definitions(), defs.Of("type Q1 []Q1; type FN func(A, N) A")...)
	for i, from := range rows {
		for j, to := range rows {
			for _, a := range from {
				for _, b := range to {
					want := i == j || same[a] != "" && same[a] == same[b] && (unnamed[a] || unnamed[b])
					if kinds.Assigns(l, defs.Type(a, "P", "Q"), defs.Type(b, "P", "Q")) != want {
						t.Errorf("P10.1: Assigns from %s to %s: %t", a, b, !want)
					}
				}
			}
		}
	}
}

// P10.1: an untyped one may be assigned to what has the basic type of its name behind it.
func TestAssignsUntyped(t *testing.T) {
	for name, to := range map[string]string{
		"int": "int N C I X Y V[A] U[A] U[R] O2", "string": "string T", "bool": "bool B",
		"": "A D E L[int] S Z[int] R O R1 unknown N[int] L O1 func() []int V[O] V[M] P",
	} {
		for _, s := range strings.Fields(to) {
			for _, from := range []string{"int", "string", "bool", ""} {
				want := from == name && name != ""
				if s == "O2" && from == "int" {
					want = false // it is nothing in full
				}
				if kinds.Assigns(definitions(), typ(2, from), defs.Type(s, "P")) != want {
					t.Errorf("P10.1: Assigns from an untyped %q to %s: %t", from, s, !want)
				}
			}
		}
	}
	if kinds.Assigns(nil, typ(2, "int"), typ(2, "int")) || kinds.Assigns(nil, typ(1, "int"), typ(2, "int")) {
		t.Error("P10.1: Assigns to an untyped one")
	}
}

// P10.1: what is no type, as it is or in full, may not be assigned, and nothing may be assigned to it.
func TestAssignsNothing(t *testing.T) {
	l := append(definitions(), defs.Of("type Q1 []O; type Deep = A1")...)
	l = append(l, chain(100, "type # = @", "int")...)
	no := []kinds.Type{nothing, typ(0, "int"), typ(0, "N"), typ(0, "unknown"), typ(0, "", typ(1, "int")), typ(3, "Deep"), defs.Function(20000)}
	for _, s := range []string{"O", "O1", "O2", "M", "M[int, int]", "A[int]", "V", "V[O]", "[]O", "func() M", "unknown[M]"} {
		no = append(no, defs.Type(s))
	}
	others := []kinds.Type{typ(2, "int"), typ(2, ""), typ(4, "P"), typ(7, ""), typ(8, ""), defs.Function(0), defs.Function(19997)}
	for _, s := range []string{"int", "bool", "N", "unknown", "unknown[int]", "L[int, int]", "R", "Q1", "A", "L[int]", "Q", "S", "Z[int]", "[]int", "func()"} {
		others = append(others, defs.Type(s))
	}
	for i, x := range no {
		for j, y := range no {
			if kinds.Assigns(l, x, y) {
				t.Errorf("P10.1: Assigns from what is no type (%d) to what is none (%d)", i, j)
			}
		}
		for j, y := range others {
			if kinds.Assigns(l, x, y) || kinds.Assigns(l, y, x) {
				t.Errorf("P10.1: Assigns from what is no type (%d) to %d, or back", i, j)
			}
		}
	}
}

// P10.1: what is a type may be assigned to itself, also where nothing, or nothing in full, stands behind it.
func TestAssignsNothingBehind(t *testing.T) {
	l := append(definitions(), defs.Of("type Q1 []O; type Q2 []O")...)
	names := []string{"unknown", "unknown2", "unknown[int]", "N[int]", "L", "L[int, int]", "R", "H[int]", "W1", "Q1", "Q2"}
	for i, from := range names {
		for j, to := range names {
			if kinds.Assigns(l, defs.Type(from), defs.Type(to)) != (i == j) {
				t.Errorf("P10.1: Assigns from %s to %s: %t", from, to, i != j)
			}
		}
		for _, x := range []kinds.Type{typ(5, "", typ(0, "")), typ(7, ""), typ(8, ""), typ(6, "")} {
			if kinds.Assigns(l, defs.Type(from), x) || kinds.Assigns(l, x, defs.Type(from)) {
				t.Errorf("P10.1: Assigns from %s to %s, or back", from, defs.Written(x))
			}
		}
	}
}
