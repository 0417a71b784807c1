package defs_test

import (
	"reflect"
	"testing"

	"demotic/defs"
	"demotic/kinds"
	"demotic/rows"
)

func TestOf(t *testing.T) {
	number, p := kinds.Type{Kind: 1, Name: "int"}, kinds.Type{Kind: 4, Name: "P"}
	want := []kinds.Def{
		{Name: "N", Type: number},
		{Name: "A", Params: []string{"P", "Q"}, Type: kinds.Type{Kind: 5, Args: []kinds.Type{p}}, Alias: true},
		{Name: "S", Params: []string{"P"}, Type: kinds.Type{Kind: 8, Name: "a,b", Args: []kinds.Type{number, p}}},
	}
	if got := defs.Of("type N int; type A[P any, Q any] = []P; type S[P any] struct { a int; b P }"); !reflect.DeepEqual(got, want) {
		t.Errorf("Of: %v", got)
	}
	if got := defs.Of(""); len(got) > 0 {
		t.Errorf("Of: %v", got)
	}
	if got := defs.Types("int", "A[P, N]"); !reflect.DeepEqual(got, []kinds.Type{number, {Kind: 3, Name: "A", Args: []kinds.Type{{Kind: 3, Name: "P"}, {Kind: 3, Name: "N"}}}}) {
		t.Errorf("Types: %v", got)
	}
	if got := defs.Type("P", "P"); !reflect.DeepEqual(got, p) {
		t.Errorf("Type: %v", got)
	}
}

func TestWrong(t *testing.T) {
	for _, s := range []string{"type", "type N ?", "type N int type M int"} {
		func() {
			defer func() {
				if recover() == nil {
					t.Errorf("Of(%q): no panic", s)
				}
			}()
			defs.Of(s)
		}()
	}
}

// What grows is of at most that depth, the same again, and not always small; every kind comes, and definitions of all looks.
func TestGrow(t *testing.T) {
	met, size, looks := map[int]bool{}, 0, map[[2]bool]bool{}
	for seed := range 300 {
		b := rows.Noise(seed, 100)
		for room := 1; room < 6; room++ {
			x := defs.Grow(b).Type(room)
			if depth(x) > room || !reflect.DeepEqual(x, defs.Grow(b).Type(room)) {
				t.Fatalf("Type(%d): %v", room, x)
			}
			met[x.Kind] = true
			size = max(size, len(defs.Written(x)))
		}
		l := defs.Grow(b).Defs()
		if !reflect.DeepEqual(l, defs.Grow(b).Defs()) {
			t.Fatalf("Defs: %v", l)
		}
		for _, d := range l {
			looks[[2]bool{d.Alias, len(d.Params) > 0}] = true
		}
	}
	if len(met) != 10 || size < 100 || len(looks) != 4 {
		t.Errorf("just %v, at most %d, %v", met, size, looks)
	}
	if x := defs.Grow(nil).Type(3); x.Kind != 1 || len(x.Args) > 0 || len(defs.Grow(nil).Defs()) > 0 {
		t.Errorf("of nothing: %v", x)
	}
}

// depth tells how many types are within one another.
func depth(x kinds.Type) int {
	deepest := 0
	for _, y := range x.Args {
		deepest = max(deepest, depth(y))
	}
	return deepest + 1
}

func TestMake(t *testing.T) {
	number := defs.Make(1, "int")
	if !reflect.DeepEqual(number, kinds.Type{Kind: 1, Name: "int"}) || !reflect.DeepEqual(defs.Slices(2, number), defs.Type("[][]int")) || !reflect.DeepEqual(defs.Slices(0, number), number) || !reflect.DeepEqual(defs.Function(2), defs.Type("func(int, int)")) || !reflect.DeepEqual(defs.Function(0), defs.Type("func()")) {
		t.Error("Make, Slices, Function")
	}
}

// Two are written as one text just if they are the same.
func TestWritten(t *testing.T) {
	l := []kinds.Type{
		{}, {Kind: 1}, {Name: "a"}, {Name: "(0"}, {Name: "a)"}, {Name: "\""}, {Name: "a", Args: []kinds.Type{{}}}, {Args: []kinds.Type{{}, {}}}, {Args: []kinds.Type{{Args: []kinds.Type{{}}}}}, {Args: []kinds.Type{{Name: "a"}}}, {Kind: 11}, {Kind: -1},
	}
	for i, a := range l {
		for j, b := range l {
			if (defs.Written(a) == defs.Written(b)) != (i == j) {
				t.Errorf("Written: %v, %v", a, b)
			}
		}
	}
	if defs.Written(defs.Slices(200, l[0])) == defs.Written(defs.Slices(200, l[1])) || defs.Written(kinds.Type{Args: []kinds.Type{}}) != defs.Written(l[0]) {
		t.Error("Written")
	}
}
