package read_test

import (
	"bytes"
	"reflect"
	"strings"
	"testing"

	"demotic/api"
	"demotic/read"
	"demotic/show"
	"demotic/tree"
	"demotic/trees"
)

// row is a text and its tree, each node with its place where @ stands in it.
type row struct{ text, tree string }

func same(t *testing.T, r row, n api.Node, at int, e api.Errno) {
	t.Helper()
	got := trees.Text(n)
	if strings.Contains(r.tree, "@") {
		got = trees.Placed(n)
	}
	if got != r.tree || at != 0 || e != api.OK {
		t.Errorf("P8.1: %q: %s, %d at %d, not %s", r.text, got, e, at, r.tree)
	}
}

// P8.1: expressions alone.
func TestExpr(t *testing.T) {
	for _, r := range []row{
		{"x", `EName"x"@0`},
		{"_", `EName"_"@0`},
		{" \n x // y", `EName"x"@3`},
		{"x\n\n", `EName"x"@0`},
		{"\ufeffx", `EName"x"@3`},
		{"0x_1F", `EInt"31"@0`},
		{"017", `EInt"15"`},
		{strings.Repeat("9", 200), `EInt"` + strings.Repeat("9", 200) + `"`},
		{`"\x41\u00e4"`, `EStr"Aä"@0`},
		{"`a\\\r\n`", `EStr"a\\\n"@0`},
		{`""`, `EStr@0`},
		{"(x)", `EName"x"@1`},
		{"(((1)))", `EInt"1"@3`},
		{"- x", `EUnary"-"@0(EName"x"@2)`},
		{"-!-x", `EUnary"-"@0(EUnary"!"@1(EUnary"-"@2(EName"x"@3)))`},
		{"a + b", `EBinary"+"@0(EName"a"@0 EName"b"@4)`},
		{"a - b - c", `EBinary"-"@0(EBinary"-"@0(EName"a"@0 EName"b"@4) EName"c"@8)`},
		{"a - (b - c)", `EBinary"-"@0(EName"a"@0 EBinary"-"@5(EName"b"@5 EName"c"@9))`},
		{"(a - b) * c", `EBinary"*"@1(EBinary"-"@1(EName"a"@1 EName"b"@5) EName"c"@10)`},
		{"a - -b", `EBinary"-"@0(EName"a"@0 EUnary"-"@4(EName"b"@5))`},
		{"-a * b", `EBinary"*"@0(EUnary"-"@0(EName"a"@1) EName"b"@5)`},
		{"a || b && c == d + e * f", `EBinary"||"(EName"a" EBinary"&&"(EName"b" EBinary"=="(EName"c" EBinary"+"(EName"d" EBinary"*"(EName"e" EName"f")))))`},
		{"a * b + c == d && e || f", `EBinary"||"(EBinary"&&"(EBinary"=="(EBinary"+"(EBinary"*"(EName"a" EName"b") EName"c") EName"d") EName"e") EName"f")`},
		{"a < b == c", `EBinary"=="(EBinary"<"(EName"a" EName"b") EName"c")`},
		{"f()", `ECall@0(EName"f"@0)`},
		{"f(1,)", `ECall@0(EName"f"@0 EInt"1"@2)`},
		{"(f)(1, x)", `ECall@1(EName"f"@1 EInt"1"@4 EName"x"@7)`},
		{"f()()", `ECall@0(ECall@0(EName"f"@0))`},
		{"a.b.c", `EField"c"@0(EField"b"@0(EName"a"@0))`},
		{"1.x", `EField"x"@0(EInt"1"@0)`},
		{"-a.b(c)[d]", `EUnary"-"@0(EIndex@1(ECall@1(EField"b"@1(EName"a"@1) EName"c"@5) EName"d"@8))`},
		{"x[1,]", `EIndex@0(EName"x"@0 EInt"1"@2)`},
		{"x[int, []T, func(a, []b) c, [][]d, func()]", `EIndex(EName"x" EName"int" TSlice(TName"T") TFunc(List(Param(TName"a") Param(TSlice(TName"b"))) TName"c") TSlice(TSlice(TName"d")) TFunc(List None))`},
		{"x[ []T]", `EIndex@0(EName"x"@0 TSlice@3(TName"T"@5))`},
		{"x[func(a) (b)]", `EIndex@0(EName"x"@0 TFunc@2(List@6(Param@7(TName"a"@7)) TName"b"@11))`},
		{"x[func() int]", `EIndex@0(EName"x"@0 TFunc@2(List@6 TName"int"@9))`},
		{"x[func(a[b]) c]", `EIndex(EName"x" TFunc(List(Param(TName"a"(TName"b"))) TName"c"))`},
		{"x[func(a []b) {}]", `EIndex(EName"x" EFunc(TFunc(List(Param"a"(TSlice(TName"b"))) None) SBlock))`},
		{"x[func(a (b)) {}]", `EIndex(EName"x" EFunc(TFunc(List(Param"a"(TName"b")) None) SBlock))`},
		{"x[func(a func()) {}]", `EIndex(EName"x" EFunc(TFunc(List(Param"a"(TFunc(List None))) None) SBlock))`},
		{"x[func() {}]", `EIndex@0(EName"x"@0 EFunc@2(TFunc@6(List@6 None) SBlock@9))`},
		{"x[func() a {} + 1, []T{}[0] - 2]", `EIndex(EName"x" EBinary"+"(EFunc(TFunc(List TName"a") SBlock) EInt"1") EBinary"-"(EIndex(ELit(TSlice(TName"T")) EInt"0") EInt"2"))`},
		{"T{}", `ELit@0(TName"T"@0)`},
		{"T{1, x,}", `ELit@0(TName"T"@0 EInt"1"@2 EName"x"@5)`},
		{"T{\n1,\n}", `ELit(TName"T" EInt"1")`},
		{"T[a, b[c], []d, func()]{}.e", `EField"e"@0(ELit@0(TName"T"@0(TName"a"@2 TName"b"@5(TName"c"@7) TSlice@11(TName"d"@13) TFunc@16(List@20 None))))`},
		{"T[(a), ((b[c]))]{}", `ELit@0(TName"T"@0(TName"a"@3 TName"b"@9(TName"c"@11)))`},
		{"-T{}", `EUnary"-"@0(ELit@1(TName"T"@1))`},
		{"T{}{", ``},
		{"[]T{T{}}", `ELit@0(TSlice@0(TName"T"@2) ELit@4(TName"T"@4))`},
		{"[](T){}", `ELit@0(TSlice@0(TName"T"@3))`},
		{"[]func() a{}", `ELit(TSlice(TFunc(List TName"a")))`},
		{"[]func(){f}[0]()", `ECall(EIndex(ELit(TSlice(TFunc(List None)) EName"f") EInt"0"))`},
		{"func(a int, _ []T,) (b) { }", `EFunc@0(TFunc@4(List@4(Param"a"@5(TName"int"@7) Param"_"@12(TSlice@14(TName"T"@16))) TName"b"@21) SBlock@24)`},
		{"func() func() {}", `EFunc(TFunc(List TFunc(List None)) SBlock)`},
		{"func() {}()", `ECall@0(EFunc@0(TFunc@4(List@4 None) SBlock@7))`},
		{"a\n", `EName"a"`},
		{"a // b\n", `EName"a"`},
	} {
		n, at, e := read.Expr(r.text)
		if r.tree != "" {
			same(t, r, n, at, e)
		} else if at != 3 || e != api.ErrForm {
			t.Errorf("P8.1: %s: %d at %d", r.text, e, at)
		}
	}
}

// P8.1: statements.
func TestStatements(t *testing.T) {
	const before = "package p;func f(){" // 19 bytes
	for _, r := range []row{
		{"", ""},
		{";;", ""},
		{"\n;\n", ""},
		{"break", " SBreak@19"},
		{"break;", " SBreak"},
		{";continue;;break", " SContinue@20 SBreak@30"},
		{"return", " SReturn@19(None)"},
		{"return\nx()", ` SReturn(None) SExpr(ECall(EName"x"))`},
		{"return x", ` SReturn@19(EName"x"@26)`},
		{"x := y", ` SShort"x"@19(EName"y"@24)`},
		{"x = y", ` SAssign@19(EName"x"@19 EName"y"@23)`},
		{"(x) = y", ` SAssign@19(EName"x"@20 EName"y"@25)`},
		{"_ = y", ` SAssign(EName"_" EName"y")`},
		{"x[1].a++", ` SInc"++"@19(EField"a"@19(EIndex@19(EName"x"@19 EInt"1"@21)))`},
		{"x--", ` SInc"--"(EName"x")`},
		{"x.y()", ` SExpr@19(ECall@19(EField"y"@19(EName"x"@19)))`},
		{"(x)()", ` SExpr@19(ECall@20(EName"x"@20))`},
		{"func(){}()", ` SExpr(ECall(EFunc(TFunc(List None) SBlock)))`},
		{"T{1}.f()", ` SExpr(ECall(EField"f"(ELit(TName"T" EInt"1"))))`},
		{"var x int", ` Var"x"@19(TName"int"@25 None)`},
		{"var _ = 1", ` Var"_"@19(None EInt"1"@27)`},
		{"var x []T = y", ` Var"x"(TSlice(TName"T") EName"y")`},
		{"{}", " SBlock@19"},
		{"{{};};{}", " SBlock@19(SBlock@20) SBlock@25"},
		{"if x {}", ` SIf@19(EName"x"@22 SBlock@24 None)`},
		{"if x {} else {}", ` SIf@19(EName"x"@22 SBlock@24 SBlock@32)`},
		{"if x {} else if y {}", ` SIf@19(EName"x"@22 SBlock@24 SIf@32(EName"y"@35 SBlock@37 None))`},
		{"if x == (T{}) {}", ` SIf(EBinary"=="(EName"x" ELit(TName"T")) SBlock None)`},
		{"if f(T{}) && x[T{}] && []T{T{}} {}", ` SIf(EBinary"&&"(EBinary"&&"(ECall(EName"f" ELit(TName"T")) EIndex(EName"x" ELit(TName"T"))) ELit(TSlice(TName"T") ELit(TName"T"))) SBlock None)`},
		{"if func() T { return T{} }() {}", ` SIf(ECall(EFunc(TFunc(List TName"T") SBlock(SReturn(ELit(TName"T"))))) SBlock None)`},
		{"if T {}", ` SIf(EName"T" SBlock None)`},
		{"if T[a] {}", ` SIf(EIndex(EName"T" EName"a") SBlock None)`},
		{"if (f(T{})).x {}; T{}.f()", ` SIf(EField"x"(ECall(EName"f" ELit(TName"T"))) SBlock None) SExpr(ECall(EField"f"(ELit(TName"T"))))`},
		{"for {}", " SFor@19(None None None SBlock@23)"},
		{"for ;; {}", " SFor@19(None None None SBlock@26)"},
		{"for x {}", ` SFor@19(None EName"x"@23 None SBlock@25)`},
		{"for x() {}", ` SFor(None ECall(EName"x") None SBlock)`},
		{"for ;x; {}", ` SFor(None EName"x" None SBlock)`},
		{"for i := 0; i < 3; i++ {}", ` SFor@19(SShort"i"@23(EInt"0"@28) EBinary"<"@31(EName"i"@31 EInt"3"@35) SInc"++"@38(EName"i"@38) SBlock@42)`},
		{"for i := 0\ni < 3\ni++ {}", ` SFor(SShort"i"(EInt"0") EBinary"<"(EName"i" EInt"3") SInc"++"(EName"i") SBlock)`},
		{"for i--; ; i = 1 {}", ` SFor(SInc"--"(EName"i") None SAssign(EName"i" EInt"1") SBlock)`},
		{"for i = T; T; f(T{}) {}", ` SFor(SAssign(EName"i" EName"T") EName"T" SExpr(ECall(EName"f" ELit(TName"T"))) SBlock)`},
		{"for range 3 {}", ` SRange@19(EInt"3"@29 SBlock@31)`},
		{"for i := range x {}", ` SRange"i"@19(EName"x"@34 SBlock@36)`},
		{"for _, v := range T {}", ` SRange"_,v"@19(EName"T"@37 SBlock@39)`},
		{"for i , v := range []T{T{}} {T{}()}", ` SRange"i,v"(ELit(TSlice(TName"T") ELit(TName"T")) SBlock(SExpr(ECall(ELit(TName"T")))))`},
	} {
		n, at, e := read.File([]byte(before + r.text + "}"))
		if e != api.OK || at != 0 {
			t.Errorf("P8.1: %q: %d at %d", r.text, e, at)
			continue
		}
		write := trees.Text
		if strings.Contains(r.tree, "@") {
			write = trees.Placed
		}
		got := ""
		for _, kid := range n.Kids[0].Kids[2].Kids {
			got += " " + write(kid)
		}
		if got != r.tree {
			t.Errorf("P8.1: %q:%s, not%s", r.text, got, r.tree)
		}
	}
}

// P8.1: files and declarations.
func TestFile(t *testing.T) {
	for _, r := range []row{
		{"package p", `File"p"@0`},
		{"\n// a\npackage _;", `File"_"@6`},
		{"package p;var x = 1", `File"p"@0(Var"x"@10(None EInt"1"@18))`},
		{"package p\nvar x (int)\n", `File"p"@0(Var"x"@10(TName"int"@17 None))`},
		{"package p\n\nvar x T[a,] = y\nvar z func()", `File"p"(Var"x"(TName"T"(TName"a") EName"y") Var"z"(TFunc(List None) None))`},
		{"package p; func f() {}", `File"p"@0(Func"f"@11(List@0 TFunc@17(List@17 None) SBlock@20))`},
		{"package p; func f[P any](a P, b []P) P { return a }", `File"p"@0(Func"f"@11(List@17(TParam"P"@18(TName"any"@20)) TFunc@24(List@24(Param"a"@25(TName"P"@27) Param"b"@30(TSlice@32(TName"P"@34))) TName"P"@37) SBlock@39(SReturn@41(EName"a"@48))))`},
		{"package p; func f[P ~int|string, Q interface{ int }, R (T), S T[P] ,](a func(P, []Q,)) {}", `File"p"(Func"f"(List(TParam"P"(TInter(Term"~"(TName"int") Term(TName"string"))) TParam"Q"(TInter(Term(TName"int"))) TParam"R"(TName"T") TParam"S"(TName"T"(TName"P"))) TFunc(List(Param"a"(TFunc(List(Param(TName"P") Param(TSlice(TName"Q"))) None))) None) SBlock))`},
		{"package p; type T[P ~a, Q []b, R func(), S (c) | d, U interface { e; }] f", `File"p"@0(Type"T"@11(List@17(TParam"P"@18(TInter@20(Term"~"@20(TName"a"@21))) TParam"Q"@24(TInter@26(Term@26(TSlice@26(TName"b"@28)))) TParam"R"@31(TInter@33(Term@33(TFunc@33(List@37 None)))) TParam"S"@41(TInter@43(Term@43(TName"c"@44) Term@49(TName"d"@49))) TParam"U"@52(TInter@54(Term@66(TName"e"@66)))) TName"f"@72))`},
		{"package p; type T int", `File"p"@0(Type"T"@11(List@0 TName"int"@18))`},
		{"package p; type T []int", `File"p"@0(Type"T"@11(List@0 TSlice@18(TName"int"@20)))`},
		{"package p; type T (func(a) b)", `File"p"(Type"T"(List TFunc(List(Param(TName"a")) TName"b")))`},
		{"package p; type T[P any] []P", `File"p"(Type"T"(List(TParam"P"(TName"any")) TSlice(TName"P")))`},
		{"package p; type T struct { }", `File"p"@0(Type"T"@11(List@0 TStruct@18))`},
		{"package p; type T struct { a int; _ []b }", `File"p"@0(Type"T"@11(List@0 TStruct@18(Field"a"@27(TName"int"@29) Field"_"@34(TSlice@36(TName"b"@38)))))`},
		{"package p; type T struct {\na int\nb T[P]\n}", `File"p"(Type"T"(List TStruct(Field"a"(TName"int") Field"b"(TName"T"(TName"P")))))`},
		{"package p; type T interface{ int }", `File"p"@0(Type"T"@11(List@0 TInter@18(Term@29(TName"int"@29))))`},
		{"package p; type T interface{\n~int | (a) | ~[]b\n}", `File"p"(Type"T"(List TInter(Term"~"(TName"int") Term(TName"a") Term"~"(TSlice(TName"b")))))`},
		{"package p; type A = int", `File"p"@0(Alias"A"@11(List@0 TName"int"@20))`},
		{"package p; type A[P any,] = []P", `File"p"@0(Alias"A"@11(List@17(TParam"P"@18(TName"any"@20)) TSlice@28(TName"P"@30)))`},
	} {
		n, at, e := read.File([]byte(r.text))
		same(t, r, n, at, e)
	}
}

// wrong is a text, an error, and what stands where it is: "" the end.
type wrong struct {
	text string
	e    api.Errno
	at   string
}

func refused(t *testing.T, r wrong, n api.Node, at int, e api.Errno) {
	t.Helper()
	want := len(r.text)
	if r.at != "" {
		want = strings.Index(r.text, r.at)
	}
	if e != r.e || at != want || !reflect.DeepEqual(n, api.Node{}) {
		t.Errorf("P8.1: %.300q: %d at %d, not %d at %d; %s", r.text, e, at, r.e, want, trees.Text(n))
	}
}

// P8.1: errors of layer 2, words and signs outside of the fragment, and what means nothing: the one that is named first counts.
func TestWrongTokens(t *testing.T) {
	long := strings.Repeat("a", 1001)
	for _, r := range []wrong{
		{"package p\nvar x = \x00", api.ErrText, "\x00"},
		{"map \x00", api.ErrText, "\x00"},
		{"map @", api.ErrToken, "@"},
		{"08 map \"", api.ErrToken, "\""},
		{"08 map", api.ErrOther, "map"},
		{"package p\nvar x = ) map", api.ErrOther, "map"},
		{"package p\nimport \"x\"", api.ErrOther, "import"},
		{"package p\nvar x = 08 & 1 << 2", api.ErrOther, "&"},
		{"package p\nvar x = \"\\q\" import", api.ErrOther, "import"},
		{"package p\nvar x = ) 08", api.ErrLit, "08"},
		{"package p\nvar x = 1 + 0b2 + 08", api.ErrLit, "0b2"},
		{"package p\nvar x = \"\\q\" + 08", api.ErrLit, "\"\\q\""},
		{"package p\nvar x = 1x", api.ErrLit, "1x"},
		{"package p\nvar x = 1_", api.ErrLit, "1_"},
		{"package p\nvar x = 0" + strings.Repeat("1", 200), api.ErrLit, "01"},
		{"package p\nvar x = \"" + long + "\"", api.ErrLit, "\"a"},
		{"package p\nvar x = `" + long + "`", api.ErrLit, "`a"},
		{"package p\nvar x = \"\\ud800\"", api.ErrLit, "\"\\u"},
		{"x \"\\400\"", api.ErrLit, "\""},
		{"if case", api.ErrOther, "case"},
		{") 1_", api.ErrLit, "1_"},
	} {
		n, at, e := read.File([]byte(r.text))
		refused(t, r, n, at, e)
		n, at, e = read.Expr(r.text)
		refused(t, r, n, at, e)
	}
	for _, s := range strings.Fields("case chan const default defer fallthrough go goto map select switch import <<= >>= &^= ... += -= *= /= %= &= |= ^= << >> &^ <- & ^ :") {
		r := wrong{"package p; )))" + s, api.ErrOther, "))"}
		r.at = s
		n, at, e := read.File([]byte(r.text))
		refused(t, r, n, at, e)
	}
	for _, s := range strings.Fields("break continue else for func if interface package range return struct type var && || == != <= >= := ++ -- + - * / % | < > = ! ( ) [ ] { } , ; . ~ a 1 \"\"") {
		r := wrong{"package p; ))) " + s, api.ErrForm, "))"}
		n, at, e := read.File([]byte(r.text))
		refused(t, r, n, at, e)
	}
	big := append([]byte("package p;"), bytes.Repeat([]byte(" "), 1<<16)...)
	if n, at, e := read.File(big); e != api.ErrLong || at != 1<<16 || n.Kind != api.None {
		t.Errorf("P8.1: %d at %d", e, at)
	}
	if n, at, e := read.File(big[:1<<16]); e != api.OK || at != 0 || n.Kind != api.File {
		t.Errorf("P8.1: %d at %d", e, at)
	}
	if _, at, e := read.Expr(string(big)); e != api.ErrLong || at != 1<<16 {
		t.Errorf("P8.1: %d at %d", e, at)
	}
}

// P8.1: what has no form, and where: a # in the text is left out, and it is there.
func TestWrongForms(t *testing.T) {
	files := []string{
		"#", "#;", " //a\n#", "package#", "package #1", "package #;", "package #if", "package p #p", "package p#.a", "package p;#;", "package p;#p", "package p;#return", "#var x = 1",
		"package p;var #1", "package p;var x#", "package p;var x#;", "package p;var x #1", "package p;var x =#", "package p;var x = #;",
		"package p;var x = 1 #2", "package p;var x int #int", "package p;var x int =#", "package p;var x#, y int",
		"package p;var x [#1]int", "package p;var x T[#]", "package p;var x T[a#", "package p;var x T[a,#,]", "package p;var x (a#,b)",
		"package p;var x (#)", "package p;var x func#", "package p;var x func #f()", "package p;var x func(a #b)",
		"package p;var x func(#,)", "package p;var x func(a)#)", "package p;var x #~int", "package p;var x #struct{}",
		"package p;var x #interface{a}", "package p;var x a#.b",
		"package p;func#", "package p;func #(", "package p;func f#", "package p;func f#{}", "package p;func f[#](){}",
		"package p;func f[P#](){}", "package p;func f[P#, Q any](){}", "package p;func f[P any#(){}", "package p;func f(#1){}",
		"package p;func f(a#){}", "package p;func f(a#, b int){}", "package p;func f(#[]a){}", "package p;func f(a int,#,){}",
		"package p;func f()#", "package p;func f()#;", "package p;func f()#\n{}", "package p;func f() int #int {}",
		"package p;func f() (a#, b){}", "package p;func f(){}#func g(){}", "package p;func f(){}#}", "package p;func f(){#",
		"package p;type#", "package p;type #(T int)", "package p;type T#", "package p;type T =#", "package p;type T = #struct{}",
		"package p;type T = #interface{a}", "package p;type T[#1]int", "package p;type T[P#]int", "package p;type T[P any]#",
		"package p;type T[P #struct{}] a", "package p;type T struct#", "package p;type T struct{#;}", "package p;type T struct{a#}",
		"package p;type T struct{a#, b int}", "package p;type T struct{a int #b int}", "package p;type T struct{a int;#;}",
		"package p;type T struct{a int#", "package p;type T interface{#}", "package p;type T interface{#;}",
		"package p;type T interface{a#, b}", "package p;type T interface{a;#b}", "package p;type T interface{a|#}",
		"package p;type T interface{~#~a}", "package p;type T[P a#&&b] c", "package p;type T[P interface{a}#|b] c",
	}
	for _, s := range files {
		marked(t, s)
	}
	for _, s := range []string{
		"1#", "x#", "x#;", "x.y#", "x[1]#;", "-f()#", "f() + g()#;", "(f())#", "T{}#;", "f++#)", "x :=#", "x := #;", "_ #:= 1",
		"x.y #:= 1", "(x) #:= 1", "f() #:= 1", "x#, y = 1", "x = 1 #= 2", "x = 1#:= 2", "x++#++", "x++#()", "x(#", "x(1#", "x(1 #2)",
		"x(#,)", "x(1,#,)", "x[#]", "x[1#;]", "x.#1", "x.#(T)", "x #y()", "x#\n()", "1#{}", "x.y#{}", "x[1]#{}", "x[y.z]#{}", "x()#{}",
		"(x)#{}", "(x[y])#{}", "x[y][z]#{}", "x[(y)[z]]#{}", "x[f()]#{}", "x[-y]#{}", "x[y+z]#{}", "x[T{}]#{}", "x[[]T{}]#{}",
		"x[func(){}]#{}", "T{}#{}", "T{1 #2}", "T{#,}", "T{1#\n}", "T{a#=1}", "[#1]T{}", "[]T#(x)", "[]T#;", "[]#{}", "[]T{}#{}",
		"func #f(){}", "func()#;", "func(a#){}()", "func(#,){}()", "func(){}#;", "func() a#()", "#~x", "!#", "-#;", "x ==#;", "x #| y",
		"x[func(a#{}]", "x[func(a)#{}]", "x[func(a, b)#{}]", "x[func(a, b #c){}]", "x[func(a b#]", "x[func(a b, c#){}]", "x[func(a b)#]",
		"x[func(a b)#,]", "x[func() a#+1]", "x[func(#1)]", "x[func#[a]]", "x[func(a#.b)]", "x[[#a]b]", "x[[]a#+b]", "x[[]a#(b)]",
		"x[([]a#)]", "x[(func()#)]",
		"break #x", "break#()", "continue #1", "return;x #y", "return x#, y", "return x #:= 1", "var #=", "var x#}", "#type T int", "#package p", "#range x", "#else {}", "#) }", "#,",
		"if#{}", "if#;", "if x#;", "if x #; y {}", "if x #:= 1; x {}", "if x#= 1 {}", "if x#++ {}", "if x {}}#", "if x {} else#;",
		"if x {} else #x()", "if x {} else #for {}", "if x {}#x()", "if x {}\n#else {}", "if T{1#} {}", "if T{}#{}", "if x == T{}#{}",
		"if T[a]{}#{}", "if T{}#.x {}",
		"for#", "for #}", "for x#;", "for x = 1#{}", "for x :=#{}", "for x := 1#{}", "for x++#{}", "for f()()#", "for x#;y {}",
		"for x#; y; {}", "for x := 1; y#{}", "for x := 1; y; #;", "for x := 1; y; z#{}", "for x := 1; y; z()#", "for ; x #:= 1; {}",
		"for ;;x#;{}", "for ;;x++#\n{}", "for ;;#;{}", "for _ #:= range x {}", "for _ #:= 1; x; {}", "for _, #_ := range x {}",
		"for a, #_ := range x {}", "for a, #1 := range x {}", "for a, b#= range x {}", "for a, b := #x {}", "for a, b#, c := range x {}",
		"for a.b#, c := range x {}", "for (a)#, b := range x {}", "for 1#, b := range x {}", "for a = #range x {}",
		"for a.b #:= range x {}", "for 1 #:= range x {}", "for \"a\" #:= range x {}", "for #:= range x {}", "for range #:= range x {}", "for (#:= range x {}", "for range#{}", "for range x#;", "for range x#; {}", "for range #range x {}", "for x #range y {}",
		"for range T{}#{}", "for (#range x) {}", "for x = 1; y #{}", "for x := range y#; {}",
	} {
		marked(t, "package p;func f(){"+s+"}")
	}
	for _, s := range []string{"#", "a#;", "a #b", "a#)", "(a#", "#return", "a +#", "a\n#+b", "a\n#;", "a#:=1", "#)", "[]T#", "a[#]", "T{#", "(#)", "a#=1", "a#++"} {
		n, at, e := read.Expr(strings.Replace(s, "#", "", 1))
		if e != api.ErrForm || at != strings.Index(s, "#") || n.Kind != api.None {
			t.Errorf("P8.1: %q: %d at %d", s, e, at)
		}
	}
}

// marked checks that a file's text has no form, from the # on.
func marked(t *testing.T, s string) {
	t.Helper()
	n, at, e := read.File([]byte(strings.Replace(s, "#", "", 1)))
	if e != api.ErrForm || at != strings.Index(s, "#") || !reflect.DeepEqual(n, api.Node{}) {
		t.Errorf("P8.1: %q: %d at %d", s, e, at)
	}
}

// deepest tells a text of an expression, and its tree, of so many nodes within one another.
var deepest = map[string]func(deep int) string{
	"unary":    func(deep int) string { return strings.Repeat("!", deep-1) + "x" },
	"binary":   func(deep int) string { return "x" + strings.Repeat(" + x", deep-1) },
	"right":    func(deep int) string { return strings.Repeat("x + (", deep-2) + "x + x" + strings.Repeat(")", deep-2) },
	"call":     func(deep int) string { return "f" + strings.Repeat("()", deep-1) },
	"argument": func(deep int) string { return strings.Repeat("f(", deep-1) + "x" + strings.Repeat(")", deep-1) },
	"field":    func(deep int) string { return "x" + strings.Repeat(".f", deep-1) },
	"index": func(deep int) string {
		return strings.Repeat("(", 999) + strings.Repeat("x[", deep-1) + "x" + strings.Repeat("]", deep-1) + strings.Repeat(")", 999)
	},
	"literal": func(deep int) string { return strings.Repeat("T{", deep-2) + "T{}" + strings.Repeat("}", deep-2) },
	"type":    func(deep int) string { return "x[" + strings.Repeat("[]", deep-2) + "T]" },
	"types": func(deep int) string {
		return "x[[]" + strings.Repeat("T[", deep-3) + "T" + strings.Repeat("]", deep-3) + "]"
	},
}

// P8.1: what is deeper than may be, as layer 6 counts it: brackets do not.
func TestDeep(t *testing.T) {
	for name, text := range deepest {
		for _, deep := range []int{5, 99, 100} {
			if n, at, e := read.Expr(text(deep)); e != api.OK || at != 0 || tree.Depth(n) != deep {
				t.Errorf("P8.1: %s, %d: %d at %d, %d", name, deep, e, at, tree.Depth(n))
			}
		}
		for _, deep := range []int{101, 102, 1000} {
			if n, at, e := read.Expr(text(deep)); e != api.ErrDeep || at != 0 || !reflect.DeepEqual(n, api.Node{}) {
				t.Errorf("P8.1: %s, %d: %d at %d", name, deep, e, at)
			}
		}
		s := text(1000) + ")"
		if n, at, e := read.Expr(s); e != api.ErrForm || at != len(s)-1 || n.Kind != api.None {
			t.Errorf("P8.1: %s: %d at %d", name, e, at)
		}
		for deep, want := range map[int]api.Errno{98: api.OK, 99: api.ErrDeep} {
			if _, at, e := read.File([]byte("package p; var x = " + text(deep))); e != want || at != 0 {
				t.Errorf("P8.1: %s, %d: %d at %d", name, deep, e, at)
			}
		}
	}
}

// P8.1: names and numbers that are too long, and what the rules of a loop let in, but no tree has.
func TestNoTree(t *testing.T) {
	long := strings.Repeat("n", 100)
	for _, s := range []string{
		"package #", "package p; var # int", "package p; var x #", "package p; var x = #", "package p; var x = y.#", "package p; func #() {}", "package p; func f(# int) {}", "package p; func f[# any]() {}",
		"package p; type # int", "package p; type T struct { # int }", "package p; func f() { # := 1 }", "package p; func f() { for a, # := range x {} }", "package p; func f() { for #, a := range x {} }", "package p; func f() { for # := range x {} }",
	} {
		if n, at, e := read.File([]byte(strings.ReplaceAll(s, "#", long))); e != api.OK || at != 0 || n.Kind != api.File {
			t.Errorf("P8.1: %s: %d at %d", s, e, at)
		}
		for _, longer := range []string{long + "n", strings.Repeat(long, 20)} {
			if n, at, e := read.File([]byte(strings.ReplaceAll(s, "#", longer))); e != api.ErrDeep || at != 0 || !reflect.DeepEqual(n, api.Node{}) {
				t.Errorf("P8.1: %s: %d at %d", s, e, at)
			}
		}
	}
	if n, at, e := read.Expr("0x" + strings.Repeat("f", 166)); e != api.OK || at != 0 || len(n.Text) != 200 {
		t.Errorf("P8.1: %d at %d", e, at)
	}
	if n, at, e := read.Expr("0x" + strings.Repeat("f", 167)); e != api.ErrDeep || at != 0 || n.Kind != api.None {
		t.Errorf("P8.1: %d at %d", e, at)
	}
	for _, s := range []string{"for f(); ; {}", "for f(); x; i++ {}", "for ; ; x := 1 {}", "for i := 0; i < 3; j := 1 {}", "if x { for ;; x := (T{}) {} }"} {
		if n, at, e := read.File([]byte("package p; func f() { " + s + " }")); e != api.ErrDeep || at != 0 || n.Kind != api.None {
			t.Errorf("P8.1: %s: %d at %d", s, e, at)
		}
		if _, at, e := read.File([]byte("package p; func f() { " + s + " } }")); e != api.ErrForm || at != len(s)+25 {
			t.Errorf("P8.1: %s: %d at %d", s, e, at)
		}
	}
}

// P8.1, P8.2: texts of up to 1000 bytes, however long they are as tokens.
func TestLongTexts(t *testing.T) {
	for _, one := range []string{"a", `\xff`, `\n`, `\000`, "ä"} {
		count := 1000
		if one == "ä" {
			count = 500
		}
		s := "package p; var x = \"" + strings.Repeat(one, count)
		n, at, e := read.File([]byte(s + "\""))
		if e != api.OK || at != 0 || len(n.Kids[0].Kids[1].Text) != 1000 {
			t.Errorf("P8.1: %s: %d at %d", one, e, at)
		}
		again, _, _ := read.File(shown(t, n))
		if !tree.Same(n, again) {
			t.Errorf("P8.2: %s", one)
		}
		if _, at, e := read.File([]byte(s + one + "\"")); e != api.ErrLit || at != 19 {
			t.Errorf("P8.1: %s: %d at %d", one, e, at)
		}
	}
}

func shown(t *testing.T, n api.Node) []byte {
	t.Helper()
	b, e := show.File(n)
	if e != api.OK {
		t.Fatalf("P7.1: %s: %d", trees.Text(n), e)
	}
	return b
}

// R1: what stands within itself as often as a file's bytes let it ends, and tells where.
func TestNested(t *testing.T) {
	const value, typ, block = "package p;var x=", "package p;var x ", "package p;func f(){"
	for _, r := range []struct{ before, opening, closing string }{
		{value, "(", ")"}, {value, "-", ""}, {value, "!", ""}, {value, "f(", ")"}, {value, "T{", "}"}, {value, "x[", "]"}, {value, "x[[]", "]"}, {value, "x[[]T{", "}]"}, {value, "x[func(", ")]"},
		{value, "x[func()T{y(", ")}]"}, {value, "x[func(a T){y(", ")}]"}, {value, "func()", "{}"}, {value, "func(){x=", "}"},
		{typ, "[]", ""}, {typ, "T[", "]"}, {typ, "func(", ")"}, {typ, "(", ")"}, {typ, "func()", ""},
		{block, "{", "}"}, {block, "if x{", "}"}, {block, "for{", "}"}, {block, "for x=", "{}"}, {block, "if x{}else ", ""},
	} {
		count := (1<<16 - 50) / (len(r.opening) + len(r.closing))
		for _, middle := range []string{"", "y", ";"} {
			s := r.before + strings.Repeat(r.opening, count) + middle + strings.Repeat(r.closing, count)
			n, at, e := read.File([]byte(s))
			deep := e == api.ErrDeep && at == 0 || e == api.ErrForm && at >= len(r.before) && at <= len(s)
			brackets := r.opening == "(" && middle == "y"
			if (n.Kind != api.None) != brackets || (e == api.OK) != brackets || !deep && !brackets {
				t.Errorf("R1: %s%s%s: %d at %d", r.opening, middle, r.closing, e, at)
			}
		}
	}
}

// R4, R5: what is handed in stays and is not kept; what is handed out is new, each list on its own.
func TestNewMemory(t *testing.T) {
	b := append([]byte("package p; type T[P a] struct { a []P }; func f(a int) { for a, b := range x[1, []T] { f(a, \"s\", T{1}, g(2)) } }"), "\x00spare"...)
	s := b[:len(b)-6]
	before := bytes.Clone(b)
	n, _, e := read.File(s)
	kept, _, _ := read.File(s)
	if e != api.OK || !bytes.Equal(b, before) || !reflect.DeepEqual(n, kept) {
		t.Fatalf("R4: %d, %q", e, b)
	}
	clear(b)
	if !reflect.DeepEqual(n, kept) {
		t.Error("R4: it hangs on what was handed in")
	}
	lists := map[*api.Node]bool{}
	count := 0
	fill(n, func(l []api.Node) {
		lists[&l[0]] = true
		count++
	})
	if !reflect.DeepEqual(n, kept) || len(lists) != count {
		t.Error("R4: two lists share memory")
	}
	if again, _, _ := read.File(before[:len(before)-6]); !reflect.DeepEqual(again, kept) {
		t.Error("R5: not the same again")
	}
}

// fill goes through all lists of a tree, and fills the room behind their ends.
func fill(n api.Node, each func([]api.Node)) {
	if len(n.Kids) == 0 {
		return
	}
	each(n.Kids)
	for _, kid := range n.Kids {
		fill(kid, each)
	}
	room := n.Kids[len(n.Kids):cap(n.Kids)]
	for i := range room {
		room[i] = api.Node{Kind: -1}
	}
}
