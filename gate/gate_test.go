package gate_test

import (
	"slices"
	"strconv"
	"strings"
	"testing"

	"demotic/api"
	"demotic/gate"
	"demotic/read"
	"demotic/trees"
)

// marked cuts the marks out of a text, a minor between two # each, and tells of what needs it, and where: of the byte behind the mark.
func marked(s string) (text string, want []gate.Use) {
	for i, part := range strings.Split(s, "#") {
		if i%2 == 0 {
			text += part
			continue
		}
		minor, e := strconv.Atoi(part)
		if e != nil {
			panic("no mark: " + part)
		}
		want = append(want, gate.Use{Minor: minor, At: len(text)})
	}
	return text, want
}

// file reads a file's text. It panics where it is none: a test is wrong then.
func file(s string) api.Node {
	n, at, e := read.File([]byte(s))
	if e != api.OK {
		panic("no file, by error " + strconv.Itoa(int(e)) + " at " + strconv.Itoa(at) + ": " + s)
	}
	return n
}

// wants checks what is told of a file with marks.
func wants(t *testing.T, s string) {
	t.Helper()
	text, want := marked("package p; " + s)
	if got := gate.Uses(file(text)); !slices.Equal(got, want) {
		t.Errorf("P13.1: Uses(%s): %v, not %v", text, got, want)
	}
}

// P13.1: what needs no version.
func TestOld(t *testing.T) {
	for _, s := range []string{
		"", "func f() {}", "func f(a int, b []N) func(N) []int { return nil }", "type N int", "type A = N", "type A = []N", "type S struct { a int; b func([]N) }", "type S struct {}", "type F func(int) N",
		"var x int", "var x = 1", "var x []func() = y", "var x any = comparable", "type any comparable; type A = any",
		"var x = a[0]", "var x = a[i][j]", "var x = a[b[c[d]]]", "var x = f[int](1)", "var x = f[L[int]]", // of one name it is not known here whether it is a type
		"var x = []int{1}[0]", "var x = a[[]int{1}[0]]", "var x = a[T{1, 2}.b]", "var x = a[f(1, 2)]", "var x = a[func(a int, b int) int { return a }(1, 2)]", "var x = [][]int{[]int{}, a}", "var x = f(a, b)(c, d)",
		"func f() { for range 10 {}; for i := range 10 {}; for i := 0; i < min(1, 2); i++ { go1 = max(a, b) }; clear(a); println(a.b.c) }",
	} {
		wants(t, s)
	}
}

// P13.1: parameters of types, at the first one, and an alias that has some.
func TestParams(t *testing.T) {
	for _, s := range []string{
		"func f[#18#P any]() {}", "func f[#18#P any, Q any](a P) Q { return f(a) }", "func f[ #18#_ comparable, ]() {}", "func f[#18#P C]() {}", "func f[#18#P int]() {}", "func f[#18#P ~int | string, Q interface{ bool }]() {}",
		"type L[#18#P any] []P", "type L[#18#P any, Q P] func(P) Q", "type S[#18#P any] struct { a P }", "type S [#18#P ~int] struct {}",
		"#24#type A[#18#P any] = []P", "#24#type A[#18#P any, Q C] = func(P, Q)", "  #24#type A [ #18#_ ~int|~string ] = N",
		"func f[#18#P any]() {}; func g() {}; type N int; type L[#18#P any] []P; type A = N; #24#type B[#18#P any] = N; var x = 1; #24#type C[#18#P any] = N; func h[#18#P any]() {}",
	} {
		wants(t, s)
	}
}

// P13.1: a constraint as a declaration's type, and nowhere else.
func TestInter(t *testing.T) {
	for _, s := range []string{
		"type C #18#interface{ int }", "type C #18#interface{ ~int | string | ~bool }", "type C   #18#interface{ N; }", "type C #18#interface{ []int }", "type C[#18#P any] #18#interface{ ~P }", "type C #18#interface{ ~#18#L[int] }",
		"func f[#18#P interface{ int }]() {}", "type C #18#interface{ int }; type D #18#interface{ int }; func f[#18#P C]() {}",
	} {
		wants(t, s)
	}
}

// P13.1: types behind a name, wherever the name of a type stands.
func TestTypesBehind(t *testing.T) {
	for _, s := range []string{
		"var x #18#L[int]", "var x #18#L[int, string] = y", "var x []#18#L[int]", "var x func(#18#L[int]) #18#L[N]", "var x func(int, [][]#18#L[int])", "var x #18#L[#18#M[int]]", "var x #18#L[N, []#18#M[#18#M[int]]]",
		"type N #18#L[int]", "type A = #18#L[int]", "type A = func() #18#L[int]", "type S struct { a int; b #18#L[int] }", "#24#type A[#18#P any] = #18#L[P]",
		"func f(a #18#L[int], b int) #18#L[N] { return a }", "func f[#18#P #18#L[int]]() {}", "func f[#18#P any, Q #18#L[P]](a Q) {}", "func f[#18#P int | ~#18#L[int]]() {}", "func f[#18#P []#18#L[int]]() {}",
		"var x = []#18#L[int]{}", "var x = #18#L[N]{}", "var x = #18#L[[]int]{1}", "var x = #18#L[int, N]{a, b}", "var x = #18#L[#18#M[int]]{}", "var x = func(a #18#L[int]) #18#L[N] { var y #18#L[int]; return y }",
		"func f() { if a { for { x := func() { y = []#18#L[int]{} } } } else { var z #18#L[int] = b } }",
	} {
		wants(t, s)
	}
}

// P13.1: two or more parts in an index, or a type.
func TestParts(t *testing.T) {
	for _, s := range []string{
		"var x = #18#f[a, b]", "var x = #18#f[int, string, bool](1)", "var x = #18#f[1, 2,]", "var x = #18#f[[]int]", "var x = #18#f[[]int](a)", "var x = #18#f[func()]", "var x = #18#f[func(int) N](1)",
		"var x = #18#f[a, []int]", "var x = #18#f[[]int, a]", "var x = #18#f[func(), a, []N]", "var x = #18#f[[]#18#L[int]]", "var x = #18#f[func(#18#L[int])]",
		"var x = #18#f[L[int], int]", "var x = f[#18#L[int, int]]", "var x = f[#18#L[[]int]]", "var x = #18#f[a[0], #18#b[1, 2]]", "var x = a[#18#f[[]int]]", "var x = #18#f[#18#f[#18#f[a, b], b], b]",
		"var x = a.b(c) + #18#f[a, b]", "var x = (#18#f)[a, b]", "var x = -#18#a.b[c, d].e", "var x = #18#a(#18#b[c, d])[e, f]",
		"func f() { for #18#a[b, c] { #18#a[b, c](); #18#a[b, c] = #18#a[b, c]; #18#a[b, c]++; x := #18#a[b, c]; return #18#a[b, c] } }",
		"func f() { for i := range #18#a[b, c] { if #18#a[b, c] { break } else if #18#a[b, c] { println(#18#a[b, c]) } } }",
	} {
		wants(t, s)
	}
}

// P13.1: each pair is told once, where more than one begin at one byte.
func TestOnce(t *testing.T) {
	for _, s := range []string{"var x = #18#f[a, b][c, d]", "var x = #18#f[a, b](c)[[]int][d, e].g[h, i]", "var x = #18#f[a, b][#18#f[a, b][c, d], e]"} {
		wants(t, s)
	}
	names := `TName"L"(TName"L"(TName"int"))`
	for _, x := range []struct {
		tree string
		want []gate.Use
	}{
		{`File"p"(Alias"A"(List(TParam"P"(TName"any")) ` + names + `))`, []gate.Use{{Minor: 18}, {Minor: 24}}},
		{`File"p"(Alias"A"(List(TParam"P"(TName"any")) TName"N") Alias"A"(List(TParam"P"(TName"any")) TName"N"))`, []gate.Use{{Minor: 18}, {Minor: 24}}},
		{`File"p"(Type"C"(List(TParam"P"(` + names + `)) TInter(Term(TName"int"))) Var"x"(` + names + ` EIndex(EName"a" EName"b" TSlice(TName"c"))))`, []gate.Use{{Minor: 18}}},
		{`File"p"(Alias"A"(List TName"N"))`, nil},
	} {
		if got := gate.Uses(trees.Of(x.tree)); !slices.Equal(got, x.want) {
			t.Errorf("P13.1: Uses(%s): %v, not %v", x.tree, got, x.want)
		}
	}
}

// P13.1: what is told is in order by where it stands, wherever that is in the tree.
func TestOrder(t *testing.T) {
	n := trees.Of(`File"p"(Alias"A"(List(TParam"P"(TName"any")) TName"L"(TName"P")) Type"C"(List TInter(Term(TName"int"))) Alias"B"(List(TParam"P"(TName"any") TParam"Q"(TName"any")) TName"N"))`)
	a, c, b := &n.Kids[0], &n.Kids[1], &n.Kids[2]
	n.At, a.At, c.At, b.At = 99, 99, 99, -7
	a.Kids[0].At, a.Kids[0].Kids[0].At, a.Kids[0].Kids[0].Kids[0].At = 98, 100, 97
	a.Kids[1].At, a.Kids[1].Kids[0].At = 3, 1
	c.Kids[1].At, c.Kids[1].Kids[0].At = 1<<40, 2
	b.Kids[0].Kids[0].At, b.Kids[0].Kids[1].At = 99, 0
	want := []gate.Use{{Minor: 24, At: -7}, {Minor: 18, At: 3}, {Minor: 18, At: 99}, {Minor: 24, At: 99}, {Minor: 18, At: 100}, {Minor: 18, At: 1 << 40}}
	if got := gate.Uses(n); !slices.Equal(got, want) {
		t.Errorf("P13.1: Uses: %v, not %v", got, want)
	}
}

// P13.1: nothing is told of what is no right file.
func TestNoFile(t *testing.T) {
	alias := `Alias"A"(List(TParam"P"(TName"any")) TName"L"(TName"P"))`
	deep := `TName"int"`
	for range 98 {
		deep = `TSlice(` + deep + `)`
	}
	for _, s := range []string{
		"None", alias, `Func"f"(List(TParam"P"(TName"any")) TFunc(List None) SBlock)`, `TName"L"(TName"int")`, `EIndex(EName"a" EName"b" EName"c")`, `SBlock(SExpr(ECall(EIndex(EName"a" EName"b" EName"c"))))`, `List(` + alias + `)`,
		`File(` + alias + `)`, `File"1"(` + alias + `)`, `File"p"(` + alias + ` None)`, `File"p"(` + alias + ` TName"L"(TName"int"))`, `File"p"(` + alias + ` File"p")`, `File"p"(` + alias + ` Alias"A"(List(TParam"P"(TName"any"))))`, `File"p"(` + alias + ` Func)`,
		`File"p"(Func"f" Type"f" Alias"f" TName EIndex)`, `File"p"(Type"C"(List TInter))`, `File"p"(Type"C"(List(None) TName"N"))`, `File"p"(Alias"A"(List(TParam"P"(TName"any")) TInter(Term(TName"int"))))`, `File"p"(` + alias + ` Var"x"(None EIndex(EName"a")))`, `File"p"(` + alias + ` Var"x"(None EIndex))`,
		`File"p"(` + alias + ` Type"N"(List ` + deep + `))`,
	} {
		n := trees.Of(s)
		if got := gate.Uses(n); len(got) > 0 {
			t.Errorf("P13.1: Uses(%.300s): %v", s, got)
		}
		if u, ok := gate.First(n, 0); ok || u != (gate.Use{}) {
			t.Errorf("P13.1: First(%.300s): %v", s, u)
		}
	}
	if got := gate.Uses(trees.Of(`File"p"(` + alias + ` Type"N"(List ` + deep[len(`TSlice(`):len(deep)-1] + `))`)); len(got) != 2 {
		t.Errorf("P13.1: Uses of a file that is 100 deep: %v", got)
	}
}

// P13.1: a file that is too great is none, nor is what has another kind.
func TestGreat(t *testing.T) {
	n := trees.Of(`File"p"(Type"L"(List(TParam"P"(TName"any")) TName"N"))`)
	for range 1<<16 - 6 {
		n.Kids[0].Kids[1].Kids = append(n.Kids[0].Kids[1].Kids, api.Node{Kind: api.TName, Text: "N"})
	}
	if got := gate.Uses(n); len(got) != 1 {
		t.Errorf("P13.1: Uses of a file of 2^16 nodes: %v", got)
	}
	more := n.Kids[0].Kids[1]
	more.Kids = append(more.Kids, more.Kids[0])
	n.Kids[0].Kids[1] = more
	if got := gate.Uses(n); len(got) > 0 {
		t.Errorf("P13.1: Uses of a file of 2^16 and 1: %v", got)
	}
	for _, kind := range []int{-1, api.None, api.Func, api.List, api.Kinds} {
		if got := gate.Uses(api.Node{Kind: kind, Text: "p", Kids: n.Kids[:0]}); len(got) > 0 {
			t.Errorf("P13.1: Uses of kind %d: %v", kind, got)
		}
	}
}

// P13.1: the first one that needs more.
func TestFirst(t *testing.T) {
	const most = 1<<63 - 1
	for _, x := range []struct {
		text string
		from []int // the minors, each behind those ahead of it, from which another one is the first
		want []gate.Use
	}{
		{"", []int{-most - 1}, []gate.Use{{}}},
		{"func f() {}", []int{-most - 1}, []gate.Use{{}}},
		{"func f[P any]() {}", []int{-most - 1, 18}, []gate.Use{{Minor: 18, At: 18}, {}}},
		{"type A[P any] = []P", []int{-most - 1, 24}, []gate.Use{{Minor: 24, At: 11}, {}}},
		{"type L[P any] []P; type A[P any] = []P", []int{-most - 1, 18, 24}, []gate.Use{{Minor: 18, At: 18}, {Minor: 24, At: 30}, {}}},
		{"type A[P any] = []P; type L[P any] []P", []int{-most - 1, 24}, []gate.Use{{Minor: 24, At: 11}, {}}},
		{"var x = f[a, b]; var y L[int]; type A[P any] = []P; type B[P any] = []P", []int{-most - 1, 18, 24}, []gate.Use{{Minor: 18, At: 19}, {Minor: 24, At: 42}, {}}},
	} {
		n := file("package p; " + x.text)
		for _, minor := range []int{-most - 1, -1, 0, 1, 16, 17, 18, 19, 22, 23, 24, 25, 26, most} {
			i := 0
			for i+1 < len(x.from) && minor >= x.from[i+1] {
				i++
			}
			if got, ok := gate.First(n, minor); got != x.want[i] || ok != (got != gate.Use{}) {
				t.Errorf("P13.1: First(%s, %d): %v, %t, not %v", x.text, minor, got, ok, x.want[i])
			}
		}
	}
	all := trees.Of(`File"p"(Alias"A"(List(TParam"P"(TName"any")) TName"N"))`) // both at 0
	for minor, want := range map[int]gate.Use{17: {Minor: 18}, 18: {Minor: 24}} {
		if got, ok := gate.First(all, minor); got != want || !ok {
			t.Errorf("P13.1: First by the version: %v, %t", got, ok)
		}
	}
}

// R4: what is handed in is not changed, what is handed out is new.
func TestMemory(t *testing.T) {
	n := file("package p; type A[P any] = L[P]; var x = f[a, b][c, d]")
	text := trees.Placed(n)
	first := gate.Uses(n)
	want := slices.Clone(first)
	for i := range first[:cap(first)] {
		first[:cap(first)][i] = gate.Use{Minor: 1, At: 1}
	}
	if got := gate.Uses(n); !slices.Equal(got, want) || trees.Placed(n) != text {
		t.Errorf("R4: %v, not %v", got, want)
	}
}
