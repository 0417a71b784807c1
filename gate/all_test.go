package gate_test

import (
	"cmp"
	"go/ast"
	"go/parser"
	gotoken "go/token"
	"go/types"
	"maps"
	"slices"
	"strings"
	"testing"

	"demotic/api"
	"demotic/gate"
	"demotic/rows"
	"demotic/tree"
	"demotic/trees"
)

// byKinds tells what a right file needs, kind by kind.
func byKinds(n api.Node) []gate.Use {
	needs := map[gate.Use]int{}
	need := func(minor int, l ...api.Node) {
		for _, x := range l {
			needs[gate.Use{Minor: minor, At: x.At}]++
		}
	}
	for _, kind := range []int{api.Func, api.Type, api.Alias} {
		for _, d := range tree.Find(n, kind) {
			params := d.Kids[0].Kids
			need(18, params[:min(1, len(params))]...)
			if kind == api.Alias && len(params) > 0 {
				need(24, d)
			}
			if kind == api.Type && d.Kids[1].Kind == api.TInter {
				need(18, d.Kids[1])
			}
		}
	}
	for _, x := range tree.Find(n, api.TName) {
		if tree.Size(x) > 1 {
			need(18, x)
		}
	}
	for _, x := range tree.Find(n, api.EIndex) {
		if len(x.Kids) != 2 || tree.Right(x.Kids[1], "type") {
			need(18, x)
		}
	}
	return slices.SortedFunc(maps.Keys(needs), func(a, b gate.Use) int {
		return cmp.Or(a.At-b.At, a.Minor-b.Minor)
	})
}

// placed gives each node a byte that is chosen by others.
func placed(n api.Node, b []byte, most int) (api.Node, []byte) {
	if len(b) > 0 {
		n.At = int(b[0]) % most
		b = b[1:]
	}
	kids := slices.Clone(n.Kids)
	for i := range kids {
		kids[i], b = placed(kids[i], b, most)
	}
	n.Kids = kids
	return n, b
}

// changed is n with another kind, or another kid, for one node, which b chooses.
func changed(n api.Node, b []byte) api.Node {
	way, b := int(b[0]), b[1:]
	if len(n.Kids) == 0 || len(b) < 3 || way < 20 {
		n.Kind = (n.Kind + way) % api.Kinds
		return n
	}
	n.Kids = slices.Clone(n.Kids)
	i := way % len(n.Kids)
	if way > 250 {
		n.Kids = slices.Delete(n.Kids, i, i+1)
		return n
	}
	n.Kids[i] = changed(n.Kids[i], b)
	return n
}

// likeAll holds what is told of a file, right or not, against another way to tell it.
func likeAll(t *testing.T, b []byte) {
	half := len(b) / 2
	n, _ := placed(trees.Grow(b[:half], "file", 30), b[half:], 256)
	likeFile(t, n)
	n, _ = placed(n, b[half:], 2)
	likeFile(t, n)
	if len(b) > 100 {
		likeFile(t, changed(n, b[len(b)-30:]))
	}
}

// likeFile does it with one.
func likeFile(t *testing.T, n api.Node) {
	text := trees.Placed(n)
	var want []gate.Use
	if tree.Right(n, "file") {
		want = byKinds(n)
	}
	if got := gate.Uses(n); !slices.Equal(got, want) {
		t.Fatalf("P13.1: Uses(%s): %v, not %v", text, got, want)
	}
	if trees.Placed(n) != text {
		t.Fatalf("R4: %s was changed", text)
	}
	for _, minor := range []int{0, 17, 18, 23, 24} {
		i := slices.IndexFunc(want, func(u gate.Use) bool { return u.Minor > minor })
		got, ok := gate.First(n, minor)
		if ok != (i >= 0) || ok && got != want[i] || !ok && got != (gate.Use{}) {
			t.Fatalf("P13.1: First(%s, %d): %v, %t", text, minor, got, ok)
		}
	}
}

// P13.1: of all kinds of files.
func TestNoise(t *testing.T) {
	for seed := range 6000 {
		likeAll(t, rows.Noise(seed, 60+seed%600))
	}
}

// FuzzGate looks for files of which something else is told.
func FuzzGate(f *testing.F) {
	for seed := range 20 {
		f.Add(rows.Noise(seed, 300))
	}
	f.Fuzz(func(t *testing.T, b []byte) {
		if len(b) < 2000 {
			likeAll(t, b)
		}
	})
}

// newer: does Go want another version of a file than that one? The file is well typed otherwise.
func newer(t *testing.T, s, version string) bool {
	set := gotoken.NewFileSet()
	f, e := parser.ParseFile(set, "", s, 0)
	if e != nil {
		t.Fatalf("%s: %v", s, e)
	}
	var found []string
	c := types.Config{GoVersion: version, Error: func(e error) { found = append(found, e.Error()) }}
	c.Check("p", set, []*ast.File{f}, nil) // its errors are those that were told
	for _, x := range found {
		if !strings.Contains(x, " requires go1.") {
			t.Fatalf("%s: %s", s, x)
		}
	}
	return len(found) > 0
}

// P13.1: of well typed files Go asks for the newer version, too. (That a generic alias needs 24, and not 23, is the document's: in 23 it was still tried out.)
func TestLikeGo(t *testing.T) {
	const base = "package p; type N int; type T []N; type S struct { a int; b func(T) N }; type B = T; func g(a int, b int) int { return a + b }; var v = []int{1}[0] + g(1, 2); "
	for _, s := range []string{
		"", "type F func(int) N", "var x = T{1, 2}[v]", "var x = []T{T{1}}[0][0]", "var x = func(a T) N { return a[v] }(T{})", "var x = S{1, func(a T) N { return a[0] }}.b(nil)",
		"type L[P any] []P", "type L[P any] struct { a P }", "func f[P any](a P) P { return a }", "func f[P int](a P) P { return a }", "func f[P any](a P) P { return a }; var x = f[[]int](nil)", "func f[P any, Q any](a P, b Q) Q { return b }; var x = f[N, int](1, 2)",
		"type L[P any] []P; var x L[int]", "type L[P any] []P; var x = L[int]{1}", "type L[P any] []P; type A = L[N]", "type L[P any] []P; func h(a L[int]) L[[]N] { return nil }",
		"type C interface { int }", "type C interface { ~int | string }", "type C interface { int }; func f[P C](a P) {}",
		"type A[P any] = []P", "type A[P any, Q any] = func(P) Q; var x A[int, N]",
	} {
		text := base + s
		n := file(text)
		if _, is := gate.First(n, 17); is != newer(t, text, "go1.17") {
			t.Errorf("P13.1: First(%s, 17): %t", text, is)
		}
		if _, is := gate.First(n, 22); is != newer(t, text, "go1.22") {
			t.Errorf("P13.1: First(%s, 22): %t", text, is)
		}
		if newer(t, text, "go1.24") {
			t.Errorf("P13.1: %s: Go wants more than 24", text)
		}
	}
}
