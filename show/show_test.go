package show_test

import (
	"bytes"
	"reflect"
	"strings"
	"testing"

	"demotic/api"
	"demotic/lit"
	"demotic/place"
	"demotic/rows"
	"demotic/show"
	"demotic/token"
	"demotic/tree"
	"demotic/trees"
)

// told tells a right node's text.
func told(t *testing.T, n api.Node, sort string) string {
	t.Helper()
	s, e := show.Text(n, sort)
	if e != api.OK || !tree.Right(n, sort) {
		t.Fatalf("P7.1: Text(%s, %s): %d", trees.Text(n), sort, e)
	}
	return s
}

// row is a tree and its text.
type row struct{ tree, text string }

func check(t *testing.T, sort string, rows []row) {
	t.Helper()
	for _, r := range rows {
		if got := told(t, trees.Of(r.tree), sort); got != r.text {
			t.Errorf("P7.1: %s: %q, not %q", r.tree, got, r.text)
		}
	}
}

// P7.1: types.
func TestTypes(t *testing.T) {
	check(t, "type", []row{
		{`TName"T"`, "T"},
		{`TName"_"`, "_"},
		{`TName"T"(TName"int")`, "T[int]"},
		{`TName"T"(TName"P" TSlice(TName"L"(TName"Q")) TFunc(List None))`, "T[P, []L[Q], func()]"},
		{`TSlice(TName"int")`, "[]int"},
		{`TSlice(TSlice(TName"T"(TName"int")))`, "[][]T[int]"},
		{`TFunc(List None)`, "func()"},
		{`TFunc(List TName"int")`, "func() int"},
		{`TFunc(List(Param(TName"a")) None)`, "func(a)"},
		{`TFunc(List(Param(TName"a") Param(TSlice(TName"b")) Param(TFunc(List None))) TSlice(TName"c"))`, "func(a, []b, func()) []c"},
		{`TFunc(List TFunc(List TFunc(List None)))`, "func() func() func()"},
		{`TSlice(TFunc(List(Param(TName"a")) TName"b"))`, "[]func(a) b"},
	})
}

// P7.1: expressions, but for brackets.
func TestExpressions(t *testing.T) {
	long := strings.Repeat("1", 200)
	check(t, "expression", []row{
		{`EInt"0"`, "0"},
		{`EInt"` + long + `"`, long},
		{`EName"x"`, "x"},
		{`EName"_"`, "_"},
		{`EStr`, `""`},
		{`EStr"a b"`, `"a b"`},
		{`EStr"\n\t\"\\\x00` + "`\u00e4" + `\xff\r"`, `"\n\t\"\\\x00` + "`" + `\xc3\xa4\xff\x0d"`},
		{`EStr"` + strings.Repeat("a", 1000) + `"`, `"` + strings.Repeat("a", 1000) + `"`},
		{`EUnary"-"(EName"x")`, "-x"},
		{`EUnary"!"(EInt"1")`, "!1"},
		{`EBinary"+"(EName"x" EInt"1")`, "x + 1"},
		{`EBinary"||"(EName"x" EStr"y")`, `x || "y"`},
		{`ECall(EName"f")`, "f()"},
		{`ECall(EName"f" EInt"1")`, "f(1)"},
		{`ECall(EName"f" EInt"1" EStr EName"x")`, `f(1, "", x)`},
		{`EIndex(EName"x" EInt"1")`, "x[1]"},
		{`EIndex(EName"x" EName"int" TSlice(TName"T") TFunc(List(Param(TName"a")) TName"b") EBinary"+"(EName"c" EName"d"))`, "x[int, []T, func(a) b, c + d]"},
		{`EField"f"(EName"x")`, "x.f"},
		{`EField"f"(EInt"1")`, "1.f"},
		{`ELit(TName"T")`, "T{}"},
		{`ELit(TName"T"(TName"P" TSlice(TName"Q")) EInt"1" EName"x")`, "T[P, []Q]{1, x}"},
		{`ELit(TSlice(TName"T") ELit(TName"T" EInt"1") ELit(TSlice(TName"T")))`, "[]T{T{1}, []T{}}"},
		{`ELit(TSlice(TFunc(List TName"T")) EName"f")`, "[]func() T{f}"},
		{`EFunc(TFunc(List None) SBlock)`, "func() {\n}"},
		{`EFunc(TFunc(List(Param"a"(TName"int")) None) SBlock)`, "func(a int) {\n}"},
		{`EFunc(TFunc(List(Param"a"(TName"int") Param"_"(TSlice(TName"T"))) TFunc(List None)) SBlock(SReturn(EName"f")))`, "func(a int, _ []T) func() {\n\treturn f\n}"},
		{`ECall(EFunc(TFunc(List None) SBlock(SBreak)) EFunc(TFunc(List None) SBlock))`, "func() {\n\tbreak\n}(func() {\n})"},
	})
}

// P7.1: statements.
func TestStatements(t *testing.T) {
	check(t, "statement", []row{
		{`SShort"x"(EName"y")`, "x := y"},
		{`SAssign(EName"x" EName"y")`, "x = y"},
		{`SAssign(EIndex(EName"x" EInt"1") EBinary"+"(EName"y" EName"z"))`, "x[1] = y + z"},
		{`SInc"++"(EName"x")`, "x++"},
		{`SInc"--"(EField"f"(EName"x"))`, "x.f--"},
		{`SExpr(ECall(EName"f" EInt"1"))`, "f(1)"},
		{`SReturn(None)`, "return"},
		{`SReturn(EName"x")`, "return x"},
		{`SBreak`, "break"},
		{`SContinue`, "continue"},
		{`SBlock`, "{\n}"},
		{`SBlock(SBreak SBlock(SBlock SContinue) SReturn(None))`, "{\n\tbreak\n\t{\n\t\t{\n\t\t}\n\t\tcontinue\n\t}\n\treturn\n}"},
		{`Var"x"(TName"int" None)`, "var x int"},
		{`Var"_"(None EInt"1")`, "var _ = 1"},
		{`Var"x"(TSlice(TName"int") EName"y")`, "var x []int = y"},
		{`SIf(EName"x" SBlock None)`, "if x {\n}"},
		{`SIf(EName"x" SBlock(SBreak) SBlock)`, "if x {\n\tbreak\n} else {\n}"},
		{`SIf(EName"x" SBlock SIf(EName"y" SBlock(SBreak) SIf(EName"z" SBlock SBlock(SContinue))))`, "if x {\n} else if y {\n\tbreak\n} else if z {\n} else {\n\tcontinue\n}"},
		{`SFor(None None None SBlock)`, "for {\n}"},
		{`SFor(None EName"x" None SBlock(SBreak))`, "for x {\n\tbreak\n}"},
		{`SFor(SShort"i"(EInt"0") None None SBlock)`, "for i := 0; ; {\n}"},
		{`SFor(SAssign(EName"i" EInt"0") EName"x" None SBlock)`, "for i = 0; x; {\n}"},
		{`SFor(SInc"--"(EName"i") EName"x" SInc"++"(EName"i") SBlock(SContinue))`, "for i--; x; i++ {\n\tcontinue\n}"},
		{`SFor(None EName"x" SExpr(ECall(EName"f")) SBlock)`, "for ; x; f() {\n}"},
		{`SFor(None None SAssign(EName"i" EInt"0") SBlock)`, "for ; ; i = 0 {\n}"},
		{`SFor(SShort"i"(EInt"0") None SInc"++"(EName"i") SBlock)`, "for i := 0; ; i++ {\n}"},
		{`SRange(EInt"3" SBlock)`, "for range 3 {\n}"},
		{`SRange"i"(EName"x" SBlock(SBreak))`, "for i := range x {\n\tbreak\n}"},
		{`SRange"_,v"(EName"x" SBlock)`, "for _, v := range x {\n}"},
		{`SIf(ECall(EFunc(TFunc(List None) SBlock(SBreak))) SBlock(SExpr(ECall(EFunc(TFunc(List None) SBlock(SContinue))))) None)`, "if func() {\n\tbreak\n}() {\n\tfunc() {\n\t\tcontinue\n\t}()\n}"},
	})
}

// P7.1: declarations.
func TestDeclarations(t *testing.T) {
	check(t, "declaration", []row{
		{`Var"x"(TName"int" EInt"1")`, "var x int = 1"},
		{`Var"x"(TFunc(List None) None)`, "var x func()"},
		{`Type"T"(List TName"int")`, "type T int"},
		{`Type"T"(List TSlice(TName"int"))`, "type T []int"},
		{`Type"T"(List TFunc(List(Param(TName"a")) TName"b"))`, "type T func(a) b"},
		{`Type"T"(List TStruct)`, "type T struct {\n}"},
		{`Type"T"(List(TParam"P"(TName"any")) TStruct(Field"a"(TName"P") Field"_"(TSlice(TName"T"(TName"P")))))`, "type T[P any] struct {\n\ta P\n\t_ []T[P]\n}"},
		{`Type"T"(List TInter(Term(TName"int")))`, "type T interface{ int }"},
		{`Type"T"(List TInter(Term"~"(TName"int") Term(TSlice(TName"a")) Term"~"(TFunc(List None))))`, "type T interface{ ~int | []a | ~func() }"},
		{`Type"T"(List(TParam"P"(TInter(Term"~"(TName"a") Term(TName"b"))) TParam"_"(TName"C"(TName"P")) TParam"Q"(TInter(Term(TName"int")))) TName"P")`, "type T[P interface{ ~a | b }, _ C[P], Q interface{ int }] P"},
		{`Alias"A"(List TName"int")`, "type A = int"},
		{`Alias"A"(List(TParam"P"(TName"any") TParam"Q"(TName"any")) TSlice(TName"P"))`, "type A[P any, Q any] = []P"},
		{`Func"f"(List TFunc(List None) SBlock)`, "func f() {\n}"},
		{`Func"f"(List(TParam"P"(TName"any")) TFunc(List(Param"a"(TName"P") Param"g"(TFunc(List(Param(TName"P")) None))) TName"P") SBlock(SReturn(EName"a")))`, "func f[P any](a P, g func(P)) P {\n\treturn a\n}"},
	})
}

// P7.1: files.
func TestFile(t *testing.T) {
	for _, r := range []row{
		{`File"main"`, "package main\n"},
		{`File"_"(Var"x"(None EInt"1"))`, "package _\n\nvar x = 1\n"},
		{`File"p"(Type"T"(List TStruct(Field"a"(TName"int"))) Alias"A"(List TName"T") Func"f"(List TFunc(List None) SBlock(SBlock)))`, "package p\n\ntype T struct {\n\ta int\n}\n\ntype A = T\n\nfunc f() {\n\t{\n\t}\n}\n"},
	} {
		if got, e := show.File(trees.Of(r.tree)); string(got) != r.text || e != api.OK {
			t.Errorf("P7.1: %s: %q, %d", r.tree, got, e)
		}
	}
}

// P7.1: brackets round what stands on either side of a sign.
func TestBinaryBrackets(t *testing.T) {
	levels := [][]string{{"||"}, {"&&"}, {"==", "!=", "<", "<=", ">", ">="}, {"+", "-"}, {"*", "/", "%"}}
	for i, outers := range levels {
		for j, inners := range levels {
			for _, outer := range outers {
				for _, inner := range inners {
					a, b := trees.Of(`EName"a"`), trees.Of(`EBinary"`+inner+`"(EName"b" EName"c")`)
					left, right := "b "+inner+" c "+outer+" a", "a "+outer+" b "+inner+" c"
					if j < i {
						left = "(b " + inner + " c) " + outer + " a"
					}
					if j <= i {
						right = "a " + outer + " (b " + inner + " c)"
					}
					n := api.Node{Kind: api.EBinary, Text: outer, Kids: []api.Node{b, a}}
					if got := told(t, n, "expression"); got != left {
						t.Errorf("P7.1: %s, not %s", got, left)
					}
					n.Kids = []api.Node{a, b}
					if got := told(t, n, "expression"); got != right {
						t.Errorf("P7.1: %s, not %s", got, right)
					}
				}
			}
		}
	}
}

// operands are some, and whether brackets stand round them ahead of a bracket or a dot.
var operands = []struct {
	row
	needed bool
}{
	{row{`EInt"1"`, "1"}, false},
	{row{`EStr"s"`, `"s"`}, false},
	{row{`EStr"-"`, `"-"`}, false},
	{row{`EName"x"`, "x"}, false},
	{row{`EUnary"-"(EName"x")`, "-x"}, true},
	{row{`EUnary"!"(EName"x")`, "!x"}, true},
	{row{`EBinary"*"(EName"x" EName"y")`, "x * y"}, true},
	{row{`EBinary"||"(EName"x" EName"y")`, "x || y"}, true},
	{row{`ECall(EName"f" EName"x")`, "f(x)"}, false},
	{row{`EIndex(EName"x" EName"y")`, "x[y]"}, false},
	{row{`EField"f"(EName"x")`, "x.f"}, false},
	{row{`ELit(TName"T" EName"x")`, "T{x}"}, false},
	{row{`ELit(TSlice(TName"T"))`, "[]T{}"}, false},
	{row{`EFunc(TFunc(List None) SBlock)`, "func() {\n}"}, false},
}

// P7.1: brackets round what a sign stands ahead of, what is called, indexed, or whose field is told, and round nothing else.
func TestOperandBrackets(t *testing.T) {
	for _, x := range operands {
		first := x.text
		if x.needed {
			first = "(" + x.text + ")"
		}
		binary := strings.HasPrefix(x.tree, "EBinary")
		minus, not := x.text, x.text
		if binary {
			not = first
		}
		if binary || strings.HasPrefix(x.text, "-") {
			minus = first
		}
		check(t, "expression", []row{
			{`EUnary"-"(` + x.tree + `)`, "-" + minus},
			{`EUnary"!"(` + x.tree + `)`, "!" + not},
			{`EUnary"!"(EUnary"-"(` + x.tree + `))`, "!-" + minus},
			{`EUnary"-"(EUnary"!"(EUnary"-"(` + x.tree + `)))`, "-!-" + minus},
			{`EUnary"-"(EUnary"-"(` + x.tree + `))`, "-(-" + minus + ")"},
			{`ECall(` + x.tree + `)`, first + "()"},
			{`ECall(EName"f" ` + x.tree + ` ` + x.tree + `)`, "f(" + x.text + ", " + x.text + ")"},
			{`EIndex(` + x.tree + ` EInt"1")`, first + "[1]"},
			{`EIndex(EName"x" ` + x.tree + `)`, "x[" + x.text + "]"},
			{`EField"f"(` + x.tree + `)`, first + ".f"},
			{`ELit(TName"T" ` + x.tree + `)`, "T{" + x.text + "}"},
		})
		if !binary {
			check(t, "expression", []row{
				{`EBinary"-"(` + x.tree + ` ` + x.tree + `)`, x.text + " - " + x.text},
				{`EBinary"*"(` + x.tree + ` ` + x.tree + `)`, x.text + " * " + x.text},
			})
		}
		check(t, "statement", []row{
			{`SAssign(` + x.tree + ` ` + x.tree + `)`, x.text + " = " + x.text},
			{`SReturn(` + x.tree + `)`, "return " + x.text},
		})
	}
}

// literals stand at some places of a head, in one with brackets, in the other one without.
var literals = []struct{ tree, text string }{
	{`ELit(TName"T" EInt"1")`, "(T{1})"},
	{`ELit(TName"T"(TName"P"))`, "(T[P]{})"},
	{`ELit(TSlice(TName"T") ELit(TName"T"))`, "[]T{T{}}"},
	{`EBinary"=="(EName"x" ELit(TName"T"))`, "x == (T{})"},
	{`EBinary"=="(ELit(TName"T") ELit(TSlice(TName"T")))`, "(T{}) == []T{}"},
	{`EUnary"!"(ELit(TName"T"))`, "!(T{})"},
	{`EUnary"-"(EBinary"+"(ELit(TName"T") EName"x"))`, "-(T{} + x)"},
	{`EBinary"*"(EBinary"+"(ELit(TName"T") EName"x") ELit(TName"T"))`, "(T{} + x) * (T{})"},
	{`EField"f"(ELit(TName"T"))`, "(T{}).f"},
	{`EField"f"(EUnary"!"(ELit(TName"T")))`, "(!T{}).f"},
	{`ECall(ELit(TName"T"))`, "(T{})()"},
	{`ECall(EName"f" ELit(TName"T" ELit(TName"U")))`, "f(T{U{}})"},
	{`EIndex(ELit(TName"T") ELit(TName"U"))`, "(T{})[U{}]"},
	{`ELit(TName"T" ELit(TName"T"))`, "(T{T{}})"},
	{`ECall(EFunc(TFunc(List None) SBlock(SShort"x"(ELit(TName"T")))))`, "func() {\n\tx := T{}\n}()"},
	{`ECall(EFunc(TFunc(List None) SBlock(SIf(ELit(TName"T") SBlock(SReturn(ELit(TName"T"))) None))) ELit(TName"T"))`, "func() {\n\tif (T{}) {\n\t\treturn T{}\n\t}\n}(T{})"},
	{`EBinary"+"(ECall(EFunc(TFunc(List None) SBlock(SIf(ELit(TName"T") SBlock None))) ELit(TName"T")) ELit(TName"T"))`, "func() {\n\tif (T{}) {\n\t}\n}(T{}) + (T{})"},
}

// P7.1: in a head brackets stand round a literal with a name.
func TestHeads(t *testing.T) {
	for _, l := range literals {
		check(t, "statement", []row{
			{`SIf(` + l.tree + ` SBlock None)`, "if " + l.text + " {\n}"},
			{`SIf(EName"x" SBlock SIf(` + l.tree + ` SBlock None))`, "if x {\n} else if " + l.text + " {\n}"},
			{`SFor(None ` + l.tree + ` None SBlock)`, "for " + l.text + " {\n}"},
			{`SFor(SShort"x"(` + l.tree + `) ` + l.tree + ` SAssign(` + l.tree + ` ` + l.tree + `) SBlock)`, "for x := " + l.text + "; " + l.text + "; " + l.text + " = " + l.text + " {\n}"},
			{`SFor(SInc"++"(` + l.tree + `) None SInc"--"(` + l.tree + `) SBlock)`, "for " + l.text + "++; ; " + l.text + "-- {\n}"},
			{`SRange(` + l.tree + ` SBlock)`, "for range " + l.text + " {\n}"},
			{`SRange"x"(` + l.tree + ` SBlock)`, "for x := range " + l.text + " {\n}"},
		})
	}
	check(t, "statement", []row{{`SFor(None None SExpr(ECall(EField"f"(ELit(TName"T")) ELit(TName"T"))) SBlock)`, "for ; ; (T{}).f(T{}) {\n}"}})
}

// P7.1: elsewhere none do, in the blocks behind a head, too.
func TestNoHeads(t *testing.T) {
	check(t, "statement", []row{
		{`SIf(EName"x" SBlock(SShort"x"(ELit(TName"T"))) SBlock(SReturn(ELit(TName"T"))))`, "if x {\n\tx := T{}\n} else {\n\treturn T{}\n}"},
		{`SFor(None EName"x" None SBlock(SExpr(ECall(ELit(TName"T")))))`, "for x {\n\tT{}()\n}"},
		{`SRange(ELit(TName"T") SBlock(SAssign(EField"f"(ELit(TName"T")) ELit(TName"T"))))`, "for range (T{}) {\n\tT{}.f = T{}\n}"},
		{`SBlock(SIf(ELit(TName"T") SBlock None) SInc"++"(ELit(TName"T")))`, "{\n\tif (T{}) {\n\t}\n\tT{}++\n}"},
		{`Var"x"(None ELit(TName"T"))`, "var x = T{}"},
	})
}

// P7.1: what is none, and sorts that have no text alone.
func TestWrong(t *testing.T) {
	sorts := []string{"file", "declaration", "type", "expression", "statement", "signature", "", "Type", "expr", "expression ", "block", "SBlock"}
	for _, s := range []string{
		"None", `File"p"`, `File"if"`, `File"p"(SBreak)`, `File`, `Var"x"(TName"int" None)`, `Var"x"(None None)`, `Func"f"(List TFunc(List None) SBlock)`, `TName"T"`, `TName"if"`, "TStruct", `TInter(Term(TName"a"))`,
		`TFunc(List None)`, `TFunc(List(Param"a"(TName"T")) None)`, `TFunc(List(Param(TName"T")) None)`, `EInt"1"`, `EInt"01"`, `EStr"` + strings.Repeat("a", 1001) + `"`, `EUnary"+"(EName"x")`, `EIndex(EName"x")`,
		`SShort"_"(EName"x")`, "SBlock", `SBlock(EName"x")`, `SExpr(EName"x")`, `SFor(SExpr(ECall(EName"f")) None None SBlock)`, `SFor(None None SShort"x"(EName"y") SBlock)`, `Term(TName"T")`, `List`, `Param"a"(TName"T")`,
	} {
		n := trees.Of(s)
		for _, sort := range sorts {
			got, e := show.Text(n, sort)
			fine := tree.Right(n, sort) && sort != "file" && sort != "signature"
			if fine != (e == api.OK) || fine != (got != "") || !fine && e != api.ErrTree {
				t.Errorf("P7.1: Text(%s, %s): %q, %d", s, sort, got, e)
			}
		}
		b, e := show.File(n)
		if fine := tree.Right(n, "file"); fine != (e == api.OK) || fine != (len(b) > 0) || !fine && e != api.ErrTree {
			t.Errorf("P7.1: File(%s): %q, %d", s, b, e)
		}
	}
}

// P7.1: what is as deep, and as great, as may be.
func TestLimits(t *testing.T) {
	deep := trees.Of(`EName"x"`)
	for range 99 {
		deep = api.Node{Kind: api.EUnary, Text: "!", Kids: []api.Node{deep}}
	}
	if got := told(t, deep, "expression"); got != strings.Repeat("!", 99)+"x" {
		t.Errorf("P7.1: %s", got)
	}
	deep = api.Node{Kind: api.EUnary, Text: "!", Kids: []api.Node{deep}}
	if got, e := show.Text(deep, "expression"); got != "" || e != api.ErrTree {
		t.Errorf("P7.1: %s", got)
	}
	block, want := api.Node{Kind: api.SBlock}, "{\n"+strings.Repeat("\t", 99)+"}"
	for i := range 99 {
		block = api.Node{Kind: api.SBlock, Kids: []api.Node{block}}
		tabs := strings.Repeat("\t", 98-i)
		want = "{\n" + tabs + "\t" + want + "\n" + tabs + "}"
	}
	if got := told(t, block, "statement"); got != want {
		t.Errorf("P7.1: %s", got)
	}
	text := trees.Of(`SReturn(EStr)`)
	text.Kids[0].Text = strings.Repeat("\xff", 1000)
	block = api.Node{Kind: api.SBlock}
	for range 1000 {
		block.Kids = append(block.Kids, text)
	}
	if got := told(t, block, "statement"); got != "{"+strings.Repeat("\n\treturn "+lit.Quote(text.Kids[0].Text), 1000)+"\n}" {
		t.Error("P7.1: a great one")
	}
	endless := []api.Node{{Kind: api.EUnary, Text: "-"}}
	endless[0].Kids = endless
	if got, e := show.Text(endless[0], "expression"); got != "" || e != api.ErrTree {
		t.Errorf("P7.1: %s", got)
	}
}

// R4, R5: what is handed in stays, what is handed out is new, and where nodes begin does not count.
func TestNewMemory(t *testing.T) {
	n := trees.Of(`File"p"(Var"x"(None EStr"a") Func"f"(List TFunc(List None) SBlock(SIf(ELit(TName"T") SBlock None))))`)
	before := tree.Copy(n)
	first, _ := show.File(n)
	want := string(first)
	clear(first)
	if again, _ := show.File(n); string(again) != want || !reflect.DeepEqual(n, before) {
		t.Errorf("R4: %q, not %q", again, want)
	}
	n.At, n.Kids[0].At = -1, 1<<40
	if again, _ := show.File(n); string(again) != want {
		t.Errorf("P7.1: %q, not %q", again, want)
	}
}

// leaves tells the names, numbers and texts of a tree, in the order in which they are told.
func leaves(n api.Node) []string {
	var l []string
	for _, kid := range n.Kids {
		l = append(l, leaves(kid)...)
	}
	if n.Kind == api.EField {
		return append(l, n.Text)
	}
	return append(words(n), l...)
}

// words tells the names, numbers and texts that stand in a node itself.
func words(n api.Node) []string {
	switch n.Kind {
	case api.EStr:
		return []string{lit.Quote(n.Text)}
	case api.EUnary, api.EBinary, api.SInc, api.Term:
		return nil
	}
	if n.Text == "" {
		return nil
	}
	return strings.Split(n.Text, ",")
}

// P7.2: a file's text is one, with the tree's names, numbers and texts in order.
func TestTokens(t *testing.T) {
	for seed := range 2000 {
		n := trees.Grow(rows.Noise(seed, 300), "file", 7+seed%60)
		b, e := show.File(n)
		l, _, f := token.Scan(b)
		if e != api.OK || f != api.OK || place.Wrong(b) >= 0 {
			t.Fatalf("P7.2: %s: %q, %d, %d", trees.Text(n), b, e, f)
		}
		var got []string
		for _, x := range l {
			if x.Kind != 2 && x.Kind != 6 {
				got = append(got, x.Text)
			}
		}
		if want := leaves(n); strings.Join(got, " ") != strings.Join(want, " ") {
			t.Fatalf("P7.2: %s: %q, %q", b, got, want)
		}
		if !bytes.HasSuffix(b, []byte("\n")) || bytes.Contains(b, []byte(" \n")) || bytes.Contains(b, []byte("\n\n\n")) {
			t.Fatalf("P7.1: %q", b)
		}
	}
}
