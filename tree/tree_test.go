package tree_test

import (
	"reflect"
	"slices"
	"strings"
	"testing"

	"demotic/api"
	"demotic/tree"
)

// within tells n as it stands in so many EUnary, each at a byte of its own.
func within(times int, n api.Node) api.Node {
	for i := range times {
		n = api.Node{Kind: api.EUnary, Text: "-", Kids: []api.Node{n}, At: i}
	}
	return n
}

// below tells what stands so many levels below n, in the first kids.
func below(n api.Node, levels int) api.Node {
	for range levels {
		n = n.Kids[0]
	}
	return n
}

// wide tells a block of so many statements.
func wide(count int) api.Node {
	return node(api.SBlock, "", slices.Repeat([]api.Node{node(api.SBreak, "")}, count)...)
}

var (
	x   = node(api.EName, "x")
	one = node(api.EInt, "1")
	sum = node(api.EBinary, "+", x, one)
)

// P6.1: what is right may be so deep, and so great.
func TestRightLimits(t *testing.T) {
	if !tree.Right(within(99, one), "expression") || tree.Right(within(100, one), "expression") || tree.Right(within(9999, one), "expression") {
		t.Error("P6.1: depth")
	}
	if deep := within(98, one); !tree.Right(node(api.ECall, "", one, deep), "expression") || tree.Right(node(api.ECall, "", one, within(1, deep)), "expression") {
		t.Error("P6.1: depth of a second kid")
	}
	if !tree.Right(wide(1<<16-1), "statement") || tree.Right(wide(1<<16), "statement") {
		t.Error("P6.1: size")
	}
	half := wide(1<<15 - 1) // with the blocks themselves 2^16 and 1
	if tree.Right(node(api.SBlock, "", half, half), "statement") {
		t.Error("P6.1: size")
	}
	if half.Kids = half.Kids[1:]; !tree.Right(node(api.SBlock, "", half, half), "statement") {
		t.Error("P6.1: size")
	}
	returns := node(api.SReturn, "", node(api.None, "")) // what is None counts, too
	if full := slices.Repeat([]api.Node{returns}, 1<<15); tree.Right(node(api.SBlock, "", full...), "statement") || !tree.Right(node(api.SBlock, "", full[1:]...), "statement") {
		t.Error("P6.1: size")
	}
}

// P6.1: of a wrong node's place nothing is asked.
func TestRightAnywhere(t *testing.T) {
	for _, at := range []int{-1 << 62, -1, 0, 1, 1 << 62} {
		n := within(3, sum)
		n.At, n.Kids[0].At = at, at
		if !tree.Right(n, "expression") || !tree.Same(n, within(3, sum)) {
			t.Errorf("P6.1: at %d", at)
		}
	}
}

// P6.1: how many there are, and how many within one another.
func TestSizeDepth(t *testing.T) {
	for _, row := range []struct {
		n           api.Node
		size, depth int
	}{
		{api.Node{}, 1, 1},
		{one, 1, 1},
		{node(api.EUnary, "-", one), 2, 2},
		{sum, 3, 2},
		{node(-5, "?", sum, one, within(3, one)), 9, 5},
		{node(api.SBlock, "", within(3, one), sum, one), 9, 5},
		{node(api.SBlock, "", one, within(3, one), sum), 9, 5},
		{node(api.SBlock, "", one, one, within(3, one)), 7, 5},
		{node(api.SReturn, "", node(api.None, "")), 2, 2},
		{wide(1 << 17), 1<<17 + 1, 2},
		{within(98, sum), 101, 100},
		{within(99, one), 100, 100},
		{within(99, sum), 100, 101},
		{within(100, one), 100, 101},
		{within(101, one), 100, 101},
		{within(9000, one), 100, 101},
		{node(api.SBlock, "", within(200, one), one, within(98, one), within(99, one)), 1 + 99 + 1 + 99 + 99, 101},
	} {
		if size, depth := tree.Size(row.n), tree.Depth(row.n); size != row.size || depth != row.depth {
			t.Errorf("P6.1: %s: %d, %d, not %d, %d", short(row.n), size, depth, row.size, row.depth)
		}
	}
}

// P6.1: what is the same.
func TestSame(t *testing.T) {
	for _, l := range [][2]api.Node{
		{{}, {}},
		{one, {Kind: api.EInt, Text: "1", At: 7}},
		{one, {Kind: api.EInt, Text: "1", Kids: []api.Node{}}},
		{sum, node(api.EBinary, "+", api.Node{Kind: api.EName, Text: "x", At: 3}, one)},
		{within(99, one), tree.Copy(within(99, one))},
		{node(-1, "?", one), node(-1, "?", one)},
		{wide(1 << 17), wide(1 << 17)},
	} {
		if !tree.Same(l[0], l[1]) || !tree.Same(l[1], l[0]) {
			t.Errorf("P6.1: %s, %s", short(l[0]), short(l[1]))
		}
	}
	for _, l := range [][2]api.Node{
		{{}, one},
		{one, x},
		{one, node(api.EInt, "2")},
		{one, node(api.EStr, "1")},
		{one, node(api.EInt, "1", one)},
		{sum, node(api.EBinary, "-", x, one)},
		{sum, node(api.EBinary, "+", one, x)},
		{sum, node(api.EBinary, "+", x)},
		{sum, node(api.EBinary, "+", x, one, one)},
		{sum, node(api.EBinary, "+", x, node(api.EInt, "11"))},
		{within(3, one), within(4, one)},
		{within(99, one), within(99, x)},
		{within(98, sum), within(98, node(api.EBinary, "+", x, x))},
		{within(100, one), within(100, one)},
		{within(99, sum), within(99, sum)},
		{within(9000, one), within(9000, one)},
		{within(99, one), within(100, one)},
		{node(api.SBlock, "", one, within(99, one)), node(api.SBlock, "", one, within(99, one))},
		{wide(1 << 17), wide(1<<17 - 1)},
	} {
		if tree.Same(l[0], l[1]) || tree.Same(l[1], l[0]) {
			t.Errorf("P6.1: not %s, %s", short(l[0]), short(l[1]))
		}
	}
}

// P6.2: which names there are.
func TestNames(t *testing.T) {
	for _, row := range []struct {
		n    api.Node
		want []string
	}{
		{api.Node{}, nil},
		{one, nil},
		{x, []string{"x"}},
		{node(api.TName, "x", node(api.TName, "y"), node(api.TName, "x")), []string{"x", "y"}},
		{node(api.EBinary, "+", node(api.EName, "b"), node(api.EName, "a")), []string{"a", "b"}},
		{node(api.ECall, "", node(api.EName, "a"), node(api.EName, "_"), node(api.EName, "Z"), node(api.EName, "a10"), node(api.EName, "a9"), node(api.EName, "a"), node(api.EName, "aa"), node(api.EName, "~\xff"), node(api.EName, "\u00e4")), []string{"Z", "_", "a", "a10", "a9", "aa", "~\xff", "\u00e4"}},
		{node(api.ELit, "", node(api.TName, "x"), x), []string{"x"}},
		{node(api.EName, "", node(api.TName, "")), []string{""}},
		{node(api.EName, "x", node(api.EName, "y", node(api.EInt, "z"))), []string{"x", "y"}},
		{node(api.EField, "f", node(api.EStr, "g")), nil},
		{node(api.Func, "f", list(node(api.TParam, "P", node(api.TName, "any"))), node(api.TFunc, "", list(node(api.Param, "a", node(api.TName, "P"))), node(api.None, "")), node(api.SBlock, "", node(api.SShort, "b", x))), []string{"P", "any", "x"}},
		{within(99, x), []string{"x"}},
		{within(100, x), nil},
		{within(98, node(api.EName, "y", x)), []string{"x", "y"}},
		{within(99, node(api.EName, "y", x)), []string{"y"}},
		{within(9000, x), nil},
	} {
		if got := tree.Names(row.n); !slices.Equal(got, row.want) {
			t.Errorf("P6.2: Names(%s): %q, not %q", short(row.n), got, row.want)
		}
	}
}

// P6.2: which nodes of a kind there are, in order, each whole.
func TestFind(t *testing.T) {
	y := api.Node{Kind: api.EName, Text: "y", At: 9}
	inner := node(api.EBinary, "*", y, one)
	outer := api.Node{Kind: api.EBinary, Text: "+", Kids: []api.Node{node(api.EUnary, "-", inner), node(api.EBinary, "/", x, y)}, At: 4}
	for _, row := range []struct {
		n    api.Node
		kind int
		want []api.Node
	}{
		{one, api.EInt, []api.Node{one}},
		{one, api.EStr, nil},
		{one, -1, nil},
		{api.Node{}, api.None, []api.Node{{}}},
		{outer, api.EBinary, []api.Node{outer, inner, outer.Kids[1]}},
		{outer, api.EName, []api.Node{y, x, y}},
		{outer, api.EUnary, outer.Kids[:1]},
		{outer, api.EInt, []api.Node{one}},
		{node(-1, "", node(-1, "a")), -1, []api.Node{node(-1, "", node(-1, "a")), node(-1, "a")}},
		{node(api.SReturn, "", node(api.None, "")), api.None, []api.Node{node(api.None, "")}},
		{within(99, one), api.EInt, []api.Node{one}},
		{within(100, one), api.EInt, nil},
		{within(99, sum), api.EBinary, []api.Node{sum}},
		{within(99, sum), api.EInt, nil},
		{node(api.ECall, "", within(200, one), x, within(99, one), within(98, one)), api.EInt, []api.Node{one}},
		{node(api.ECall, "", within(200, one)), api.ECall, []api.Node{node(api.ECall, "", within(200, one))}},
	} {
		got := tree.Find(row.n, row.kind)
		if !(len(got) == 0 && len(row.want) == 0) && !reflect.DeepEqual(got, row.want) {
			t.Errorf("P6.2: Find(%s, %d): %s, not %s", short(row.n), row.kind, short(got), short(row.want))
		}
	}
	deep := within(300, one)
	got := tree.Find(deep, api.EUnary)
	if len(got) != 100 {
		t.Fatalf("P6.2: Find: %d", len(got))
	}
	for i, n := range got {
		if !reflect.DeepEqual(n, below(deep, i)) {
			t.Fatalf("P6.2: Find: the one at %d", i)
		}
	}
}

// P6.2: what stands in the place of others.
func TestSwap(t *testing.T) {
	at := api.Node{Kind: api.EName, Text: "x", At: 5}
	by := api.Node{Kind: api.EUnary, Text: "-", Kids: []api.Node{at}, At: 7}
	for _, row := range []struct {
		n    api.Node
		kind int
		text string
		by   api.Node
		want api.Node
	}{
		{x, api.EName, "x", one, one},
		{x, api.EName, "x", by, by},
		{x, api.EName, "y", one, x},
		{x, api.TName, "x", one, x},
		{x, api.EName, "", one, x},
		{x, api.EName, "xx", one, x},
		{api.Node{}, api.None, "", sum, sum},
		{api.Node{}, api.None, "", api.Node{}, api.Node{}},
		{sum, api.EName, "x", by, node(api.EBinary, "+", by, one)},
		{sum, api.EName, "x", sum, node(api.EBinary, "+", sum, one)},
		{sum, api.EInt, "1", node(-3, "?"), node(api.EBinary, "+", x, node(-3, "?"))},
		{sum, api.EBinary, "+", one, sum},
		{node(api.EName, "x", x), api.EName, "x", one, node(api.EName, "x", one)},
		{api.Node{Kind: api.EName, Text: "x", Kids: []api.Node{}, At: 4}, api.EName, "x", one, one},
		{node(api.ECall, "", x, sum, at, x), api.EName, "x", one, node(api.ECall, "", one, node(api.EBinary, "+", one, one), one, one)},
		{api.Node{Kind: api.EUnary, Text: "-", Kids: []api.Node{at}, At: 2}, api.EName, "y", one, api.Node{Kind: api.EUnary, Text: "-", Kids: []api.Node{at}, At: 2}},
		{node(-1, "a", node(-1, "b"), node(-1, "a")), -1, "a", x, node(-1, "a", node(-1, "b"), x)},
		{within(99, x), api.EName, "x", one, within(99, one)},
		{within(99, x), api.EName, "x", within(99, x), within(99, within(99, x))},
		{within(98, sum), api.EName, "x", within(300, one), within(98, node(api.EBinary, "+", within(300, one), one))},
		{within(100, x), api.EName, "x", one, within(100, x)},
		{within(9000, x), api.EName, "x", one, within(9000, x)},
		{node(api.ECall, "", within(99, x), within(98, x), x), api.EName, "x", one, node(api.ECall, "", within(99, x), within(98, one), one)},
	} {
		if got := tree.Swap(row.n, row.kind, row.text, row.by); !reflect.DeepEqual(got, row.want) {
			t.Errorf("P6.2: Swap(%s, %d, %q, %s): %s, not %s", short(row.n), row.kind, row.text, short(row.by), short(got), short(row.want))
		}
	}
}

// P6.2: a copy is what it is a copy of, where it begins, too.
func TestCopy(t *testing.T) {
	for _, n := range []api.Node{{}, {Kind: -1, Text: "?", At: -8}, one, sum, within(3, sum), within(99, one), within(100, one), within(300, sum), wide(1 << 17)} {
		if got := tree.Copy(n); !reflect.DeepEqual(got, n) {
			t.Errorf("P6.2: Copy(%s): %s", short(n), short(got))
		}
	}
}

// roomy tells a right tree whose lists have room behind their ends, and all of what these stand on.
func roomy() (n api.Node, all [][]api.Node) {
	spare := func(l ...api.Node) []api.Node {
		row := append(l, node(api.EStr, "spare"))
		all = append(all, row)
		return row[:len(l)]
	}
	leaf := func(text string) api.Node { return api.Node{Kind: api.EName, Text: text, Kids: spare(), At: 1} }
	inner := api.Node{Kind: api.EBinary, Text: "*", Kids: spare(leaf("x"), leaf("y")), At: 2}
	return api.Node{Kind: api.EBinary, Text: "+", Kids: spare(inner, leaf("x")), At: 3}, all
}

// spoil sets everything in a node to something else, the room behind the ends of its lists, too.
func spoil(n *api.Node) {
	n.Kids = n.Kids[:cap(n.Kids)]
	for i := range n.Kids {
		spoil(&n.Kids[i])
	}
	*n = api.Node{Kind: api.Kinds, Text: "spoilt", At: -1}
}

// R4: what is handed in is not changed and not kept; what is handed out is new, each list on its own.
func TestNewMemory(t *testing.T) {
	want, _ := roomy()
	by, byAll := roomy()
	for name, do := range map[string]func(n api.Node) []api.Node{
		"Copy": func(n api.Node) []api.Node { return []api.Node{tree.Copy(n)} },
		"Find": func(n api.Node) []api.Node { return tree.Find(n, api.EBinary) },
		"all":  func(n api.Node) []api.Node { return append(tree.Find(n, api.EName), tree.Find(n, api.None)...) },
		"Swap": func(n api.Node) []api.Node { return tree.Swap(n, api.EName, "x", by).Kids },
		"none": func(n api.Node) []api.Node { return []api.Node{tree.Swap(n, api.EName, "z", by)} },
		"it":   func(api.Node) []api.Node { return []api.Node{tree.Swap(x, api.EName, "x", by)} },
		"others": func(n api.Node) []api.Node {
			tree.Names(n)
			tree.Right(n, "expression")
			tree.Same(n, by)
			return nil
		},
	} {
		n, all := roomy()
		got := do(n)
		kept := do(n)
		if !reflect.DeepEqual(got, kept) {
			t.Errorf("R5: %s", name)
		}
		for i := range got { // each on its own: what comes behind is as it was
			spoil(&got[i])
			if !reflect.DeepEqual(got[i+1:], kept[i+1:]) {
				t.Errorf("R4: %s: two lists of one answer share memory", name)
			}
		}
		all = append(all, byAll...)
		for _, l := range all {
			if l[len(l)-1].Text != "spare" {
				t.Errorf("R4: %s changes the room behind", name)
			}
		}
		if !tree.Same(n, want) || !tree.Same(by, want) || n.At != 3 || n.Kids[0].At != 2 {
			t.Errorf("R4: %s shares memory with what is handed in", name)
		}
	}
}

// R4: so it is of all that is not deeper than may be, swapped ones, too.
func TestNewMemoryDeep(t *testing.T) {
	n, by := within(99, x), within(99, one)
	for range 2 {
		got := tree.Swap(n, api.EName, "x", by)
		for got.Kids != nil {
			kids := got.Kids
			got = got.Kids[0]
			kids[0] = api.Node{Kind: api.Kinds}
		}
	}
	if !reflect.DeepEqual(n, within(99, x)) || !reflect.DeepEqual(by, within(99, one)) {
		t.Error("R4: Swap")
	}
	for _, one := range tree.Find(node(api.ECall, "", n), api.ECall) {
		for one.Kids != nil {
			one.Kids, one = nil, one.Kids[0]
		}
	}
	for _, got := range tree.Find(n, api.EUnary) {
		for got.Kids != nil {
			kids := got.Kids
			got = got.Kids[0]
			kids[0] = api.Node{Kind: api.Kinds}
		}
	}
	if !reflect.DeepEqual(n, within(99, x)) {
		t.Error("R4: Find")
	}
}

// R1: a row that is in itself is deeper than any.
func TestEndless(t *testing.T) {
	kids := []api.Node{{Kind: api.EUnary, Text: "-"}}
	kids[0].Kids = kids
	n := kids[0]
	if tree.Right(n, "expression") || tree.Same(n, n) || tree.Depth(n) != 101 || tree.Size(n) != 100 || len(tree.Names(n)) > 0 || len(tree.Find(n, api.EUnary)) != 100 {
		t.Error("P6.2: endless")
	}
	if got := tree.Swap(tree.Copy(n), api.EName, "x", n); got.Text != "-" || tree.Depth(got) != 101 {
		t.Error("P6.2: endless")
	}
	if strings.Join(tree.Names(node(api.EName, "y", n, n)), "") != "y" {
		t.Error("P6.2: endless")
	}
}
