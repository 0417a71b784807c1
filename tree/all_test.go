package tree_test

import (
	"reflect"
	"slices"
	"strconv"
	"testing"

	"demotic/api"
	"demotic/tree"
)

// written tells a tree as a text of its own: two have the same one, if they are the same.
func written(n api.Node) string {
	s := "(" + strconv.Itoa(n.Kind) + strconv.Quote(n.Text)
	for _, kid := range n.Kids {
		s += written(kid)
	}
	return s + ")"
}

// at tells the node at the end of a way.
func at(n api.Node, way []int) api.Node {
	for _, i := range way {
		n = n.Kids[i]
	}
	return n
}

// likeTree holds what is told of a tree that is not too deep against what each way in it leads to.
func likeTree(t *testing.T, n, by api.Node) {
	size, depth := 0, 0
	var names []string
	found := map[int][]api.Node{}
	swapped := map[string]api.Node{}
	kinds := map[string]int{}
	each(n, func(way []int) {
		x := at(n, way)
		size++
		depth = max(depth, len(way)+1)
		if x.Kind == api.EName || x.Kind == api.TName {
			names = append(names, x.Text)
		}
		found[x.Kind] = append(found[x.Kind], x)
		if _, ok := swapped[x.Text]; !ok {
			swapped[x.Text], kinds[x.Text] = n, x.Kind
		}
	})
	slices.Sort(names)
	if tree.Size(n) != size || tree.Depth(n) != depth || !slices.Equal(tree.Names(n), slices.Compact(names)) {
		t.Fatalf("P6.1, P6.2: %s: %d, %d, %q", written(n), tree.Size(n), tree.Depth(n), tree.Names(n))
	}
	for kind, want := range found {
		if !reflect.DeepEqual(tree.Find(n, kind), want) {
			t.Fatalf("P6.2: Find(%s, %d)", written(n), kind)
		}
	}
	for text, want := range swapped {
		each(n, func(way []int) {
			if x := at(n, way); x.Kind == kinds[text] && x.Text == text && len(x.Kids) == 0 {
				want = put(want, way, by)
			}
		})
		if got := tree.Swap(n, kinds[text], text, by); !reflect.DeepEqual(got, want) {
			t.Fatalf("P6.2: Swap(%s, %d, %q, %s): %s", written(n), kinds[text], text, written(by), written(got))
		}
	}
	if got := tree.Copy(n); !reflect.DeepEqual(got, n) {
		t.Fatalf("P6.2: Copy(%s): %s", written(n), written(got))
	}
}

// small tells all trees of so many nodes of a few kinds.
func small(size int) []api.Node {
	var l []api.Node
	for _, kids := range forests(size - 1) {
		l = append(l, node(api.EName, "x", kids...), node(api.TName, "y", kids...), node(api.EUnary, "x", kids...))
	}
	return l
}

// forests tells all rows of trees of so many nodes in all.
func forests(size int) [][]api.Node {
	if size == 0 {
		return [][]api.Node{nil}
	}
	var l [][]api.Node
	for first := range size {
		for _, n := range small(first + 1) {
			for _, rest := range forests(size - first - 1) {
				l = append(l, append([]api.Node{n}, rest...))
			}
		}
	}
	return l
}

// P6.1 to P6.3: all small trees.
func TestSmall(t *testing.T) {
	var l []api.Node
	for size := range 4 {
		l = append(l, small(size+1)...)
	}
	for i, n := range append(l, small(5)...) {
		likeTree(t, n, l[i%len(l)])
	}
	for _, a := range l { // what is the same by another text is an equality, so this is one
		for _, b := range l {
			if tree.Same(a, b) != (written(a) == written(b)) {
				t.Fatalf("P6.3: Same(%s, %s): %t", written(a), written(b), tree.Same(a, b))
			}
		}
	}
}

// P6.3: of the rows' samples, too.
func TestSameSamples(t *testing.T) {
	l := samples()
	for i, a := range l {
		likeTree(t, a, l[(i+1)%len(l)])
		for j, b := range l {
			b = tree.Copy(b)
			b.At = j
			if tree.Same(a, b) != (written(a) == written(b)) || tree.Same(b, a) != tree.Same(a, b) {
				t.Errorf("P6.3: Same(%s, %s): %t", written(a), written(b), tree.Same(a, b))
			}
		}
	}
}

// grown makes a tree of bytes, and tells those that are left: each node takes its kind, its text, and how many kids it has.
func grown(b []byte, room int) (api.Node, []byte) {
	texts := []string{"", "x", "_", "x,y", "1", "-", "+", "~", "++"}
	if len(b) < 3 {
		return api.Node{}, nil
	}
	n := api.Node{Kind: int(b[0])%(api.Kinds+1) - 1, Text: texts[int(b[1])%len(texts)], At: len(b)}
	count := int(b[2]) % 5
	b = b[3:]
	for i := 0; i < count && room > 1 && len(b) > 0; i++ {
		var kid api.Node
		kid, b = grown(b, room-1)
		n.Kids = append(n.Kids, kid)
	}
	return n, b
}

// FuzzTree: P6.1 to P6.3, and that every call ends, at whatever trees.
func FuzzTree(f *testing.F) {
	f.Add([]byte{api.SBlock + 1, 0, 1, api.SBreak + 1, 0, 0}, uint8(4))
	f.Add([]byte{api.EBinary + 1, 6, 2, api.EName + 1, 1, 0, api.EInt + 1, 4, 0}, uint8(9))
	f.Fuzz(func(t *testing.T, b []byte, room uint8) {
		if len(b) > 600 {
			return
		}
		n, rest := grown(b, 1+int(room)%100)
		by, _ := grown(rest, 9)
		likeTree(t, n, by)
		judge(document()).holds(t, n)
		judge(document()).holds(t, by)
		if tree.Same(n, by) != (written(n) == written(by)) || !tree.Same(n, tree.Copy(n)) {
			t.Fatalf("P6.3: %s, %s", written(n), written(by))
		}
		deep := within(100, n)
		if tree.Right(deep, "expression") || tree.Same(deep, deep) || tree.Size(deep) != 100 || tree.Depth(deep) != 101 || len(tree.Names(deep)) > 0 || !reflect.DeepEqual(tree.Swap(deep, n.Kind, n.Text, by), deep) || !reflect.DeepEqual(tree.Copy(deep), deep) {
			t.Fatalf("P6.2: %s, too deep", written(n))
		}
	})
}
