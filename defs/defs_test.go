package defs_test

import (
	"reflect"
	"testing"

	"demotic/defs"
	"demotic/kinds"
)

func TestOf(t *testing.T) {
	number, p := kinds.Type{Kind: 1, Name: "int"}, kinds.Type{Kind: 4, Name: "P"}
	want := []kinds.Def{
		{Name: "N", Type: number},
		{Name: "A", Params: []string{"P", "Q"}, Type: kinds.Type{Kind: 5, Args: []kinds.Type{p}}, Alias: true},
		{Name: "S", Params: []string{"P"}, Type: kinds.Type{Kind: 8, Name: "a,b", Args: []kinds.Type{number, p}}},
	}
	if got := defs.Of("type N int; type A[P any, Q any] = []P; type S[P any] struct { a int; b P }"); !reflect.DeepEqual(got, want) {
		t.Errorf("Of: %v", got)
	}
	if got := defs.Of(""); len(got) > 0 {
		t.Errorf("Of: %v", got)
	}
	if got := defs.Types("int", "A[P, N]"); !reflect.DeepEqual(got, []kinds.Type{number, {Kind: 3, Name: "A", Args: []kinds.Type{{Kind: 3, Name: "P"}, {Kind: 3, Name: "N"}}}}) {
		t.Errorf("Types: %v", got)
	}
	if got := defs.Type("P", "P"); !reflect.DeepEqual(got, p) {
		t.Errorf("Type: %v", got)
	}
}

func TestWrong(t *testing.T) {
	for _, s := range []string{"type", "type N ?", "type N int type M int"} {
		func() {
			defer func() {
				if recover() == nil {
					t.Errorf("Of(%q): no panic", s)
				}
			}()
			defs.Of(s)
		}()
	}
}
