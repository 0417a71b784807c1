package trees_test

import (
	"testing"

	"demotic/api"
	"demotic/rows"
	"demotic/tree"
	"demotic/trees"
)

func TestText(t *testing.T) {
	x := api.Node{Kind: api.EName, Text: "x", At: 7}
	n := api.Node{Kind: api.SBlock, At: 3, Kids: []api.Node{
		{Kind: api.SReturn, At: 5, Kids: []api.Node{{}}},
		{Kind: api.SAssign, Kids: []api.Node{x, {Kind: api.EStr, Text: "a (\"\n"}}},
	}}
	text := `SBlock(SReturn(None) SAssign(EName"x" EStr"a (\"\n"))`
	if got := trees.Text(n); got != text {
		t.Error(got)
	}
	if got := trees.Placed(n); got != `SBlock@3(SReturn@5(None) SAssign@0(EName"x"@7 EStr"a (\"\n"@0))` {
		t.Error(got)
	}
	if got := trees.Of(text); !tree.Same(got, n) {
		t.Error(got)
	}
	for kind := range api.Kinds {
		s := trees.Text(api.Node{Kind: kind})
		if got := trees.Of(s); got.Kind != kind || got.Text != "" || got.Kids != nil {
			t.Error(kind, s, got)
		}
	}
	for s, kind := range map[string]int{"File": api.File, "Param": api.Param, "Term": api.Term, "EInt": api.EInt, "ELit": api.ELit, "SShort": api.SShort, "SBlock": api.SBlock} {
		if trees.Text(api.Node{Kind: kind}) != s {
			t.Error(s, kind)
		}
	}
}

func TestNoTree(t *testing.T) {
	for _, s := range []string{"", "X", "EName ", "EName)", "EName(", "EName(EInt", "EName()", "EName\"", "EName(EInt,EInt)"} {
		func() {
			defer func() {
				if recover() == nil {
					t.Errorf("%q is none", s)
				}
			}()
			trees.Of(s)
		}()
	}
}

// What grows is right, of at most that depth, the same again, and not always small.
func TestGrow(t *testing.T) {
	for _, sort := range []string{"file", "declaration", "type", "expression", "statement", "signature"} {
		size := 0
		for seed := range 300 {
			b := rows.Noise(seed, 600)
			for _, room := range []int{7, 8, 20, 100} {
				n := trees.Grow(b, sort, room)
				if !tree.Right(n, sort) || tree.Depth(n) > room || !tree.Same(n, trees.Grow(b, sort, room)) {
					t.Fatalf("%s: %d, %s", sort, room, trees.Text(n))
				}
				size = max(size, tree.Size(n))
			}
		}
		if size < 30 {
			t.Errorf("%s: %d at most", sort, size)
		}
		if n := trees.Grow(nil, sort, 7); !tree.Right(n, sort) || tree.Size(n) > 8 {
			t.Errorf("%s of nothing: %s", sort, trees.Text(n))
		}
	}
}

// Every kind grows.
func TestGrowKinds(t *testing.T) {
	met := map[int]bool{}
	for seed := range 300 {
		n := trees.Grow(rows.Noise(seed, 600), "file", 20)
		for kind := range api.Kinds {
			met[kind] = met[kind] || len(tree.Find(n, kind)) > 0
		}
	}
	for kind := range api.Kinds {
		if !met[kind] {
			t.Errorf("%s does not grow", trees.Text(api.Node{Kind: kind}))
		}
	}
}
