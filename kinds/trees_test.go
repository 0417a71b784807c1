package kinds_test

import (
	"strings"
	"testing"

	"demotic/api"
	"demotic/defs"
	"demotic/kinds"
	"demotic/rows"
	"demotic/tree"
	"demotic/trees"
)

// P10.2: the type of a tree.
func TestOf(t *testing.T) {
	integer, p := typ(1, "int"), typ(4, "P")
	for _, x := range []struct {
		tree string
		want kinds.Type
	}{
		{`TName"int"`, integer}, {`TName"string"`, typ(1, "string")}, {`TName"bool"`, typ(1, "bool")}, {`TName"N"`, typ(3, "N")}, {`TName"_"`, typ(3, "_")}, {`TName"any"`, typ(3, "any")}, {`TName"Int"`, typ(3, "Int")},
		{`TName"P"`, p}, {`TName"Q"`, typ(4, "Q")}, {`TName"p"`, typ(3, "p")},
		{`TName"P"(TName"int")`, typ(3, "P", integer)}, {`TName"int"(TName"P")`, typ(3, "int", p)}, {`TName"bool"(TName"bool" TName"N")`, typ(3, "bool", typ(1, "bool"), typ(3, "N"))},
		{`TName"L"(TName"P" TSlice(TName"L"(TName"Q")))`, typ(3, "L", p, typ(5, "", typ(3, "L", typ(4, "Q"))))},
		{`TSlice(TName"int")`, typ(5, "", integer)}, {`TSlice(TSlice(TName"P"))`, typ(5, "", typ(5, "", p))},
		{`TFunc(List None)`, typ(6, "", typ(7, ""))}, {`TFunc(List TName"P")`, typ(6, "", p)},
		{`TFunc(List(Param(TName"int") Param(TName"P")) None)`, typ(6, "", integer, p, typ(7, ""))},
		{`TFunc(List(Param(TFunc(List None))) TFunc(List(Param(TSlice(TName"N"))) TName"int"))`, typ(6, "", typ(6, "", typ(7, "")), typ(6, "", typ(5, "", typ(3, "N")), integer))},
		{`TStruct`, typ(8, "")}, {`TStruct(Field"a"(TName"int"))`, typ(8, "a", integer)}, {`TStruct(Field"_"(TName"int") Field"_"(TName"int"))`, typ(8, "_,_", integer, integer)},
		{`TStruct(Field"a"(TName"P") Field"P"(TSlice(TName"Q")) Field"int"(TFunc(List None)))`, typ(8, "a,P,int", p, typ(5, "", typ(4, "Q")), typ(6, "", typ(7, "")))},
	} {
		is(t, "P10.2: Of "+x.tree, kinds.Of(trees.Of(x.tree), []string{"P", "Q", "P"}), x.want)
	}
	is(t, "P10.2: Of with a parameter called int", kinds.Of(trees.Of(`TSlice(TName"int")`), []string{"int"}), typ(5, "", typ(4, "int")))
	is(t, "P10.2: Of without parameters", kinds.Of(trees.Of(`TSlice(TName"P")`), nil), typ(5, "", typ(3, "P")))
}

// P10.2: what is no type's tree.
func TestOfNone(t *testing.T) {
	for _, s := range []string{
		`None`, `File"p"`, `List`, `EName"int"`, `EInt"1"`, `Param(TName"int")`, `Field"a"(TName"int")`, `Term(TName"int")`, `TInter(Term(TName"int"))`, `SBlock`,
		`Type"T"(List TName"int")`, `Type"T"(List TStruct)`, `TParam"P"(TName"any")`,
		`TName`, `TName"1"`, `TName"func"`, `TName"map"`, `TName"a,b"`, `TName"L"(None)`, `TName"L"(EName"a")`, `TName"L"(TName)`, `TName"L"(TStruct)`, `TName"L"(TName"int" TInter(Term(TName"int")))`,
		`TSlice`, `TSlice(None)`, `TSlice"a"(TName"int")`, `TSlice(TName"int" TName"int")`, `TSlice(TStruct)`, `TSlice(EName"a")`, `TSlice(TSlice)`,
		`TFunc`, `TFunc(List)`, `TFunc(None None)`, `TFunc"a"(List None)`, `TFunc(List"a" None)`, `TFunc(List None None)`, `TFunc(List TStruct)`, `TFunc(List(TName"int") None)`, `TFunc(List(Param"a"(TName"int")) None)`, `TFunc(List(Param) None)`, `TFunc(List(Param(None)) None)`, `TFunc(List(Param(TName"int" TName"int")) None)`, `TFunc(List None"a")`, `TFunc(List EName"a")`,
		`TStruct"a"`, `TStruct(None)`, `TStruct(TName"int")`, `TStruct(Field(TName"int"))`, `TStruct(Field"a")`, `TStruct(Field"a"(None))`, `TStruct(Field"a"(TName"int" TName"int"))`, `TStruct(Field"1"(TName"int"))`, `TStruct(Field"func"(TName"int"))`, `TStruct(Field"a,b"(TName"int"))`, `TStruct(Field"a"(TStruct))`, `TStruct(Field"a"(EName"a"))`, `TStruct(Param"a"(TName"int"))`, `TStruct(Field"a"(TName"int") Field"b"(TSlice))`,
	} {
		is(t, "P10.2: Of "+s, kinds.Of(trees.Of(s), []string{"P", "", "1"}), nothing)
	}
	is(t, "P10.2: Of a kind that there is not", kinds.Of(api.Node{Kind: api.Kinds, Text: "a"}, nil), nothing)
	is(t, "P10.2: Of a kind that there is not", kinds.Of(api.Node{Kind: -1, Text: "a"}, nil), nothing)
}

// field is a struct of so many fields of one type.
func field(count int, n api.Node) api.Node {
	out := api.Node{Kind: api.TStruct}
	for range count {
		out.Kids = append(out.Kids, api.Node{Kind: api.Field, Text: "a", Kids: []api.Node{n}})
	}
	return out
}

// P10.2: trees that are too deep, too great, or have too long names are none.
func TestOfLimits(t *testing.T) {
	integer := api.Node{Kind: api.TName, Text: "int"}
	deep := func(count int) api.Node { return kinds.Tree(defs.Slices(count-1, typ(1, "int"))) }
	named := func(count int) api.Node { return kinds.Tree(typ(3, "L", defs.Function(count - 1).Args[:count-1]...)) }
	text := func(size int) string { return strings.Repeat("a", size) }
	for _, x := range []struct {
		what string
		tree api.Node
		want int
	}{
		{"100 deep", deep(100), 5}, {"101 deep", deep(101), 0}, {"10000 deep", deep(10000), 0},
		{"a struct 100 deep", field(1, deep(98)), 8}, {"a struct 101 deep", field(1, deep(99)), 0}, {"a struct 102 deep", field(1, deep(100)), 0}, {"a struct that is too deep", field(1, deep(10000)), 0},
		{"2^16 nodes", named(1 << 16), 3}, {"2^16 and 1", named(1<<16 + 1), 0},
		{"a struct of 2^16 - 1", field(1<<15-1, integer), 8}, {"a struct of 2^16", api.Node{Kind: api.TStruct, Kids: append(field(1<<15-2, integer).Kids, field(1, deep(2)).Kids...)}, 8}, {"a struct of 2^16 and 1", field(1<<15, integer), 0},
		{"a name of 100", api.Node{Kind: api.TName, Text: text(100)}, 3}, {"a name of 101", api.Node{Kind: api.TName, Text: text(101)}, 0},
		{"a field of 100", api.Node{Kind: api.TStruct, Kids: []api.Node{{Kind: api.Field, Text: text(100), Kids: []api.Node{integer}}}}, 8}, {"a field of 101", api.Node{Kind: api.TStruct, Kids: []api.Node{{Kind: api.Field, Text: text(101), Kids: []api.Node{integer}}}}, 0},
	} {
		if got := kinds.Of(x.tree, nil); got.Kind != x.want || got.Kind == 0 && defs.Written(got) != defs.Written(nothing) {
			t.Errorf("P10.2: Of %s: kind %d, not %d", x.what, got.Kind, x.want)
		}
	}
}

// P10.2: a type's tree, and its text.
func TestTree(t *testing.T) {
	integer, p, without := typ(1, "int"), typ(4, "P"), typ(7, "")
	for _, x := range []struct {
		t          kinds.Type
		tree, text string
	}{
		{integer, `TName"int"`, "int"}, {p, `TName"P"`, "P"}, {typ(3, "N"), `TName"N"`, "N"}, {typ(1, "x"), `TName"x"`, "x"}, {typ(4, "int"), `TName"int"`, "int"},
		{typ(3, "L", integer, p), `TName"L"(TName"int" TName"P")`, "L[int, P]"}, {typ(1, "int", p), `TName"int"(TName"P")`, "int[P]"}, {typ(4, "P", integer), `TName"P"(TName"int")`, "P[int]"},
		{typ(5, "", integer), `TSlice(TName"int")`, "[]int"}, {typ(5, "x", integer), `TSlice(TName"int")`, "[]int"}, {typ(5, "", typ(5, "", p)), `TSlice(TSlice(TName"P"))`, "[][]P"},
		{typ(6, "", without), `TFunc(List None)`, "func()"}, {typ(6, "x", typ(7, "x", integer)), `TFunc(List None)`, "func()"}, {typ(6, "", p), `TFunc(List TName"P")`, "func() P"},
		{typ(6, "", p, integer, without), `TFunc(List(Param(TName"P") Param(TName"int")) None)`, "func(P, int)"},
		{typ(6, "", typ(6, "", without), typ(6, "", typ(5, "", p), integer)), `TFunc(List(Param(TFunc(List None))) TFunc(List(Param(TSlice(TName"P"))) TName"int"))`, "func(func()) func([]P) int"},
		{typ(3, "L", typ(6, "", p, typ(5, "", p), without)), `TName"L"(TFunc(List(Param(TName"P") Param(TSlice(TName"P"))) None))`, "L[func(P, []P)]"},
		{typ(1, "int", typ(2, "int")), `TName"int"(None)`, ""}, {typ(4, "P", integer, without, nothing), `TName"P"(TName"int" None None)`, ""}, {typ(4, "P", typ(5, "")), `TName"P"(None)`, ""},
		{typ(3, ""), `TName`, ""}, {typ(3, "a b"), `TName"a b"`, ""}, {typ(1, "func"), `TName"func"`, ""}, {typ(5, "", typ(4, "1")), `TSlice(TName"1")`, ""},
	} {
		if got := trees.Text(kinds.Tree(x.t)); got != x.tree {
			t.Errorf("P10.2: Tree(%s): %s, not %s", defs.Written(x.t), got, x.tree)
		}
		if got := kinds.Text(x.t); got != x.text {
			t.Errorf("P10.2: Text(%s): %s, not %s", defs.Written(x.t), got, x.text)
		}
	}
}

// P10.2: what has no tree, and no text.
func TestTreeNone(t *testing.T) {
	integer := typ(1, "int")
	lacking := []kinds.Type{
		nothing, typ(0, "int"), typ(0, "int", integer), typ(2, "int"), typ(7, ""), typ(8, ""), typ(8, "a", integer), typ(9, "int"), typ(-1, "int"), typ(10, "", integer),
		typ(5, ""), typ(5, "", integer, integer), typ(6, ""),
	}
	for _, x := range lacking {
		within := []kinds.Type{x, typ(3, "L", x), typ(3, "L", integer, x), typ(3, "L", x, integer), typ(5, "", x), typ(6, "", x, typ(7, "")), typ(6, "", integer, x, integer), typ(5, "", typ(3, "L", typ(6, "", x, integer)))}
		if x.Kind != 7 {
			within = append(within, typ(6, "", x), typ(6, "", integer, x))
		}
		for _, y := range within {
			if n := kinds.Tree(y); !tree.Same(n, api.Node{}) || n.At != 0 {
				t.Errorf("P10.2: Tree(%s): %s", defs.Written(y), trees.Text(n))
			}
			if s := kinds.Text(y); s != "" {
				t.Errorf("P10.2: Text(%s): %q", defs.Written(y), s)
			}
		}
	}
	if s := kinds.Text(defs.Slices(99, integer)); s != strings.Repeat("[]", 99)+"int" || kinds.Text(defs.Slices(100, integer)) != "" {
		t.Errorf("P10.2: Text of types within one another: %q", s)
	}
	if got := kinds.Tree(defs.Slices(9999, integer)); len(trees.Text(got)) < 9999*len("TSlice()") {
		t.Error("P10.2: Tree of a deep type")
	}
}

// P10.3: Of is undone by Tree.
func TestUndone(t *testing.T) {
	for seed := range 20000 {
		undone(t, trees.Grow(rows.Noise(seed, 60), "type", 1+seed%12), []string{"a", "T"})
	}
}

// undone checks P10.3 of a right type's tree.
func undone(t *testing.T, n api.Node, params []string) {
	of := kinds.Of(n, params)
	if of.Kind == 0 || !tree.Same(kinds.Tree(of), n) {
		t.Fatalf("P10.3: Tree of Of(%s): %s", trees.Text(n), trees.Text(kinds.Tree(of)))
	}
	is(t, "P10.3: Of(Tree)", kinds.Of(kinds.Tree(of), params), of)
	var by []kinds.Type
	for _, s := range params {
		by = append(by, typ(4, s))
	}
	is(t, "P10.3: With by itself", kinds.With(of, params, by), of)
	is(t, "P10.3: With by nothing", kinds.With(of, nil, nil), of)
	is(t, "P10.2: Of without parameters, and then with", kinds.With(kinds.Of(n, params), []string{"a", "T"}, []kinds.Type{typ(3, "a"), typ(3, "T")}), kinds.Of(n, nil))
}
