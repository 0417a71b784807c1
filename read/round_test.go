package read_test

import (
	"slices"
	"strings"
	"testing"

	"demotic/api"
	"demotic/lit"
	"demotic/read"
	"demotic/rows"
	"demotic/show"
	"demotic/token"
	"demotic/tree"
	"demotic/trees"
)

// tokens tells a text's tokens.
func tokens(t *testing.T, b []byte) []token.Token {
	t.Helper()
	l, at, e := token.Scan(b)
	if e != api.OK {
		t.Fatalf("P7.2: %q: %d at %d", b, e, at)
	}
	return l
}

// P8.2: a right file's text is read as it was.
func TestRound(t *testing.T) {
	for seed := range 6000 {
		n := trees.Grow(rows.Noise(seed, 50+seed%400), "file", 7+seed%94)
		b := shown(t, n)
		again, at, e := read.File(b)
		if e != api.OK || at != 0 || !tree.Same(again, n) {
			t.Fatalf("P8.2: %q: %d at %d, %s, not %s", b, e, at, trees.Text(again), trees.Text(n))
		}
		x := trees.Grow(rows.Noise(seed, 50+seed%100), "expression", 7+seed%94)
		s, _ := show.Text(x, "expression")
		if got, at, e := read.Expr(s); e != api.OK || at != 0 || !tree.Same(got, x) {
			t.Fatalf("P8.2: %q: %d at %d, %s, not %s", s, e, at, trees.Text(got), trees.Text(x))
		}
	}
}

// P8.2: all small expressions, where brackets stand and where none do, in a head and elsewhere.
func TestRoundSmall(t *testing.T) {
	leaves := []api.Node{trees.Of(`EName"T"`), trees.Of(`ELit(TName"T")`), trees.Of(`ELit(TSlice(TName"T"))`)}
	all := over3(over3(leaves))
	for _, x := range all {
		for _, s := range []string{"SReturn(EName\"x\")", "SIf(EName\"x\" SBlock None)", "SRange(EName\"x\" SBlock)", "SFor(None EName\"x\" None SBlock)", "SAssign(EName\"x\" EName\"x\")"} {
			n := trees.Of(`File"p"(Func"f"(List TFunc(List None) SBlock(` + s + `)))`)
			n = tree.Swap(n, api.EName, "x", x)
			b := shown(t, n)
			again, at, e := read.File(b)
			if e != api.OK || at != 0 || !tree.Same(again, n) {
				t.Fatalf("P8.2: %q: %d at %d, %s, not %s", b, e, at, trees.Text(again), trees.Text(n))
			}
		}
	}
}

// over3 tells all expressions that have one of some in them, and others beside.
func over3(l []api.Node) []api.Node {
	out := slices.Clone(l)
	for _, n := range l {
		for _, s := range []string{
			`EUnary"-"(X)`, `EUnary"!"(X)`, `EBinary"||"(X EName"a")`, `EBinary"||"(EName"a" X)`, `EBinary"&&"(X EName"a")`, `EBinary"&&"(EName"a" X)`,
			`EBinary"=="(X EName"a")`, `EBinary"<="(EName"a" X)`, `EBinary"+"(X EInt"1")`, `EBinary"-"(EStr"a" X)`, `EBinary"*"(X EName"a")`, `EBinary"/"(EName"a" X)`,
			`ECall(X)`, `ECall(EName"a" X)`, `EIndex(X EName"a")`, `EIndex(EName"a" X)`, `EIndex(EName"a" X TSlice(TName"T") X)`, `EField"a"(X)`, `ELit(TName"T" X)`, `ELit(TSlice(TName"T") X X)`,
			`EFunc(TFunc(List None) SBlock(SReturn(X)))`, `EFunc(TFunc(List None) SBlock(SIf(X SBlock None)))`, `ELit(TName"T"(TName"a"))`, `EIndex(EName"a" TFunc(List(Param(TName"a")) None) X)`,
		} {
			out = append(out, trees.Of(strings.ReplaceAll(s, "X", trees.Text(n))))
		}
	}
	return out
}

// brackets tells where the round brackets of a text stand that belong to an operand: neither a name, a word nor a bracket stands ahead of these.
func brackets(l []token.Token) [][2]int {
	var pairs [][2]int
	var open []int
	for i, x := range l {
		switch x.Text {
		case "(":
			open = append(open, i)
		case ")":
			j := open[len(open)-1]
			open = open[:len(open)-1]
			before := l[j-1]
			if before.Kind == 6 && before.Text != ")" && before.Text != "]" && before.Text != "}" || before.Text == "if" || before.Text == "range" || before.Text == "for" || before.Text == "return" {
				pairs = append(pairs, [2]int{j, i})
			}
		}
	}
	return pairs
}

// P7.1: none of the brackets round an operand may be left out: something else would be read, or nothing.
func TestNeededBrackets(t *testing.T) {
	count := 0
	for seed := range 2000 {
		n := trees.Grow(rows.Noise(seed, 150), "file", 7+seed%94)
		l := tokens(t, shown(t, n))
		for _, pair := range brackets(l) {
			var parts []string
			for i, x := range l {
				if i != pair[0] && i != pair[1] {
					parts = append(parts, x.Text)
				} else if l[i-1].Text == "-" && x.Text == "(" && l[i+1].Text == "-" {
					parts = append(parts, "-") // the two as they would stand
				}
			}
			s := strings.ReplaceAll(strings.Join(parts, " "), "- - -", "--")
			count++
			if again, _, e := read.File([]byte(s)); e == api.OK && tree.Same(again, n) {
				t.Fatalf("P7.1: %q: brackets at %d", s, l[pair[0]].At)
			}
		}
	}
	if count < 1000 {
		t.Errorf("only %d", count)
	}
}

// P8.1: brackets round operands and types, as many as there are, change nothing but where what stands in them begins.
func TestMoreBrackets(t *testing.T) {
	for a, b := range map[string]string{
		"a + b * c":               "((a) + ((b) * (c)))",
		"-a.b(c)[d]":              "-((((a).b)((c)))[(d)])",
		"T{a, b}":                 "((T{(a), ((b))}))",
		"x[a, []b, func(c) d]":    "(x)[(a), []((b)), func((c)) ((d))]",
		"func(a int) T { f() }":   "(func(a (int)) ((T)) { (f)() })",
		"[]T{a}[0]":               "(([]((T)){(a)})[(0)])",
		"f(func(a []b, c func())": "",
	} {
		n, _, e := read.Expr(a)
		m, _, f := read.Expr(b)
		if b != "" && (e != api.OK || f != api.OK || !tree.Same(n, m)) {
			t.Errorf("P8.1: %s: %s, %d; %s: %s, %d", a, trees.Text(n), e, b, trees.Text(m), f)
		}
	}
}

// P8.1: blanks and notes between tokens change nothing but where nodes begin; a line's end is a semicolon where layer 2 puts one in.
func TestBetween(t *testing.T) {
	for seed := range 500 {
		n := trees.Grow(rows.Noise(seed, 150), "file", 7+seed%30)
		l := tokens(t, shown(t, n))
		for _, between := range []string{" ", "\t\r ", " /* \n */", " // note\n"} {
			s := "\ufeff" + between
			for i, x := range l {
				if s += x.Text; i+1 < len(l) && ends(x) {
					s += " "
				} else {
					s += between
				}
			}
			if again, at, e := read.File([]byte(s)); e != api.OK || !tree.Same(again, n) {
				t.Fatalf("P8.1: %q: %d at %d", s, e, at)
			}
		}
	}
}

// ends: would a line's end behind it put in a semicolon?
func ends(x token.Token) bool {
	l, _, _ := token.Scan([]byte(x.Text + "\n"))
	return len(l) > 1
}

// said tells a text's tokens, but for brackets, commas and semicolons, numbers and texts as what they mean.
func said(l []token.Token) []string {
	var out []string
	for _, x := range l {
		switch x.Kind {
		case 4:
			x.Text, _ = lit.Number(x.Text)
		case 5:
			x.Text, _ = lit.Text(x.Text)
		}
		if x.Kind != 6 || !strings.Contains("()[]{},;\n", x.Text) {
			out = append(out, x.Text)
		}
	}
	return out
}

// P8.2: what is read is right, and the tokens of its text are those of what was read, but for brackets, commas and semicolons.
func TestTokens(t *testing.T) {
	fine := 0
	check := func(s string) {
		n, _, e := read.File([]byte(s))
		if e != api.OK {
			return
		}
		fine++
		b := shown(t, n)
		got, want := said(tokens(t, b)), said(tokens(t, []byte(s)))
		if !tree.Right(n, "file") || !slices.Equal(got, want) {
			t.Fatalf("P8.2: %q: %q, %q, not %q", s, b, got, want)
		}
	}
	for seed := range 4000 {
		b := shown(t, trees.Grow(rows.Noise(seed, 150), "file", 7+seed%30))
		check(string(b))
		check(torn(string(b), rows.Noise(seed+7777, 5)))
	}
	for _, s := range []string{
		"package p; type T struct { a int; b (c); }; type A[P any,] = (func(P,) (P)); func f() { ; { ; }; ; x(1,) }",
		"package p; var x = 0x10 + (((017))) + T{1,\n2,\n}.f[a,]; func f() { for _, v := range (x) { if (v) { return } else { break; }; }; }",
	} {
		check(s)
	}
	if fine < 4000 {
		t.Errorf("%d are fine", fine)
	}
}

// FuzzRead: P8.1 and P8.2, and that every call ends, at whatever bytes.
func FuzzRead(f *testing.F) {
	f.Add([]byte("package main\n\ntype T[P any, Q ~int | string] struct {\n\ta P\n}\n\nfunc f[P any](a P) P {\n\tfor _, v := range l {\n\t\tg(func(n int) int { return n - (1 - v) }, T[int]{1}.a)\n\t}\n\treturn x[[]int, func()]\n}\n"))
	f.Add([]byte("package p; func f() { if (T{1}).a == 2 { } else if x { for i := 0; i < 0x10; i++ { } }; var y = `s`; z++; for range 3 { continue } }"))
	f.Fuzz(func(t *testing.T, b []byte) {
		if len(b) > 400 {
			return
		}
		if _, _, e := read.File(b); e == api.ErrDeep && len(b) > 100 { // it may be too deep, or have too long a name in it
			if at, e := ruled().begin("file").wanted(string(b)); e != api.OK {
				t.Fatalf("P8.1: %q: not %d at %d", b, e, at)
			}
			return
		}
		holds(t, ruled().begin("file"), string(b))
		likeGo(t, string(b))
	})
}

// FuzzShow: P7.1, P7.2 and P8.2, at whatever right trees.
func FuzzShow(f *testing.F) {
	f.Add([]byte{3, 1, 2, 3, 4, 5, 6, 7, 8, 9, 10, 11, 12, 13}, uint8(20))
	f.Fuzz(func(t *testing.T, b []byte, room uint8) {
		if len(b) > 1000 {
			return
		}
		n := trees.Grow(b, "file", 7+int(room)%94)
		text := shown(t, n)
		again, at, e := read.File(text)
		if e != api.OK || at != 0 || !tree.Same(again, n) {
			t.Fatalf("P8.2: %q: %d at %d", text, e, at)
		}
	})
}
