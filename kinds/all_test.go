package kinds_test

import (
	"reflect"
	"slices"
	"strconv"
	"testing"

	"demotic/api"
	"demotic/defs"
	"demotic/kinds"
	"demotic/rows"
	"demotic/tree"
)

// swapped is with types for parameters, done from the last one back.
func swapped(t kinds.Type, params []string, by []kinds.Type) kinds.Type {
	if t.Kind == 4 {
		var out *kinds.Type
		for i := min(len(params), len(by)) - 1; i >= 0; i-- {
			if params[i] == t.Name {
				out = &by[i]
			}
		}
		if out != nil {
			return *out
		}
	}
	var args []kinds.Type
	for _, x := range t.Args {
		args = append(args, swapped(x, params, by))
	}
	return kinds.Type{Kind: t.Kind, Name: t.Name, Args: args}
}

// defined tells the first definition of a named type.
func defined(l []kinds.Def, t kinds.Type) *kinds.Def {
	for i := len(l) - 1; i >= 0; i-- {
		first := true
		for _, d := range l[:i] {
			first = first && d.Name != l[i].Name
		}
		if first && l[i].Name == t.Name && t.Kind == 3 {
			return &l[i]
		}
	}
	return nil
}

// bad: does it, or what it leads to, name an alias with another count of types, or one that leads back to itself? Each type that is looked at is one of t or of a definition, so the way to it tells. (In the place of a parameter stands what was looked at already.)
func bad(l []kinds.Def, t kinds.Type, params, way []string) bool {
	if t.Kind == 4 && slices.Contains(params, t.Name) {
		return false
	}
	for _, x := range t.Args {
		if bad(l, x, params, way) {
			return true
		}
	}
	d := defined(l, t)
	if d == nil || !d.Alias {
		return false
	}
	return slices.Contains(way, t.Name) || len(d.Params) != len(t.Args) || bad(l, d.Type, d.Params, append(slices.Clone(way), t.Name))
}

// looks tells how many types are looked at for one in full that is not bad, and how many are in it then; of parameters it is known how many are in what stands for them.
func looks(l []kinds.Def, t kinds.Type, params []string, sizes []int) (looked, size int) {
	if i := slices.Index(params, t.Name); i >= 0 && t.Kind == 4 {
		return sizes[i], sizes[i]
	}
	looked, size = 1, 1
	var given []int
	for _, x := range t.Args {
		a, b := looks(l, x, params, sizes)
		looked, size, given = looked+a, size+b, append(given, b)
	}
	if d := defined(l, t); d != nil && d.Alias {
		a, b := looks(l, d.Type, d.Params, given)
		looked, size = looked+a, b
	}
	return looked, size
}

// once writes the aliases out whose types have none in them, and tells whether there were any.
func once(l []kinds.Def, t kinds.Type) (kinds.Type, bool) {
	any := false
	var args []kinds.Type
	for _, x := range t.Args {
		y, done := once(l, x)
		any = any || done
		args = append(args, y)
	}
	t.Args = args
	if d := defined(l, t); !any && d != nil && d.Alias {
		return swapped(d.Type, d.Params, t.Args), true
	}
	return t, any
}

// likeFull holds Full against rounds of writing out.
func likeFull(t *testing.T, l []kinds.Def, x kinds.Type) {
	got := kinds.Full(l, x)
	if bad(l, x, nil, nil) {
		is(t, "P10.1: Full of what leads back, or has another count of types", got, nothing)
		return
	}
	if looked, count := looks(l, x, nil, nil); looked >= 20000 {
		is(t, "P10.1: Full, where too many types are looked at", got, nothing)
		return
	} else if count != size(got) {
		t.Fatalf("P10.1: Full of %s, by %v: %d types, not %d", defs.Written(x), l, size(got), count)
	}
	want, more := x, true
	for more && size(want) < 2000 {
		want, more = once(l, want)
	}
	if !more && size(want) < 500 {
		is(t, "P10.1: Full", got, want)
		is(t, "P10.1: Full of Full", kinds.Full(l, got), got)
	}
}

func size(t kinds.Type) int {
	n := 1
	for _, x := range t.Args {
		n += size(x)
	}
	return n
}

// likeBehind holds Behind, and what hangs on it, against a step.
func likeBehind(t *testing.T, l []kinds.Def, x kinds.Type) {
	got := kinds.Behind(l, x)
	if d := defined(l, x); x.Kind != 3 {
		is(t, "P10.1: Behind", got, x)
	} else if d == nil || len(d.Params) != len(x.Args) {
		is(t, "P10.1: Behind", got, nothing)
	} else if next := kinds.Behind(l, swapped(d.Type, d.Params, x.Args)); size(x) < 500 && (next.Kind != 0 || d.Type.Kind != 3) {
		is(t, "P10.1: Behind", got, next) // of the definitions here no way is just 100 steps long
	}
	if kinds.Comparable(l, x) != (got.Kind == 1) || kinds.Ordered(l, x) != (got.Kind == 1 && got.Name != "bool") {
		t.Fatalf("P10.1: Comparable, Ordered of %s", defs.Written(x))
	}
}

// likeAssigns holds Assigns against its words.
func likeAssigns(t *testing.T, l []kinds.Def, from, to kinds.Type) {
	a, b := kinds.Full(l, from), kinds.Full(l, to)
	x, y := kinds.Behind(l, a), kinds.Behind(l, b)
	want := defs.Written(a) == defs.Written(b)
	switch {
	case a.Kind == 2:
		want = y.Kind == 1 && y.Name == a.Name
	case a.Kind != 1 && a.Kind != 3 && a.Kind != 4, b.Kind != 1 && b.Kind != 3 && b.Kind != 4:
		want = want || defs.Written(kinds.Full(l, x)) == defs.Written(kinds.Full(l, y))
	}
	want = want && a.Kind != 0 && b.Kind != 0
	if kinds.Assigns(l, from, to) != want {
		t.Fatalf("P10.1: Assigns from %s to %s, by %v: %t", defs.Written(from), defs.Written(to), l, !want)
	}
}

// likeWith holds With against swapped, and P10.3 of it.
func likeWith(t *testing.T, x kinds.Type, params []string, by []kinds.Type) {
	is(t, "P10.1: With", kinds.With(x, params, by), swapped(x, params, by))
	for _, s := range params {
		by = append(by, typ(4, s))
	}
	if by = by[len(by)-len(params):]; kinds.Of(kinds.Tree(x), nil).Kind != 0 {
		is(t, "P10.3: With by itself", kinds.With(bare(x), params, by), bare(x))
	}
}

// bare is a type whose parameters have no types in them.
func bare(t kinds.Type) kinds.Type {
	var args []kinds.Type
	for _, x := range t.Args {
		if t.Kind != 4 {
			args = append(args, bare(x))
		}
	}
	t.Args = args
	return t
}

// likeTree holds a tree against the type that it says.
func likeTree(t *testing.T, x kinds.Type) {
	n, s := kinds.Tree(x), kinds.Text(x)
	if tree.Right(n, "type") != (s != "") {
		t.Fatalf("P10.2: Text(%s): %q", defs.Written(x), s)
	}
	if s != "" {
		of := kinds.Of(n, nil)
		if !tree.Same(kinds.Tree(of), n) || kinds.Text(of) != s {
			t.Fatalf("P10.3: %s: %s", defs.Written(x), defs.Written(of))
		}
	}
	if (n.Kind == api.None) != (x.Kind < 1 || x.Kind > 6 || x.Kind == 2 || x.Kind != 1 && x.Kind != 4 && lacking(x)) {
		t.Fatalf("P10.2: Tree(%s): kind %d", defs.Written(x), n.Kind)
	}
}

// lacking: has a named type, a slice or a function no tree for what is in it?
func lacking(t kinds.Type) bool {
	last := len(t.Args) - 1
	for i, x := range t.Args {
		if kinds.Tree(x).Kind == api.None && (t.Kind != 6 || i != last || x.Kind != 7) {
			return true
		}
	}
	return t.Kind == 5 && last != 0 || t.Kind == 6 && last < 0
}

// likeAll holds what is told of a few types against other ways to tell it.
func likeAll(t *testing.T, b []byte) {
	m := defs.Grow(b)
	l := m.Defs()
	types := []kinds.Type{m.Type(4), m.Type(3), m.Type(2), typ(3, m.Name()), typ(2, m.Name())}
	params := []string{m.Name(), m.Name(), m.Name()}[:m.Pick(4)]
	for i, x := range types {
		likeFull(t, l, x)
		likeBehind(t, l, x)
		likeTree(t, x)
		likeWith(t, x, params, types[i:])
		for _, y := range types {
			likeAssigns(t, l, x, y)
			if kinds.Same(x, y) != (defs.Written(x) == defs.Written(y)) {
				t.Fatalf("P10.1: Same(%s, %s)", defs.Written(x), defs.Written(y))
			}
		}
	}
}

// P10.1 to P10.3: of definitions and types, right or not.
func TestNoise(t *testing.T) {
	for seed := range 12000 {
		likeAll(t, rows.Noise(seed, 10+seed%120))
	}
}

// FuzzKinds looks for definitions and types of which something else is told.
func FuzzKinds(f *testing.F) {
	for seed := range 20 {
		f.Add(rows.Noise(seed, 80))
	}
	f.Fuzz(func(t *testing.T, b []byte) {
		if len(b) < 400 {
			likeAll(t, b)
		}
	})
}

// memory are the lists that were seen, by where they begin.
type memory map[uintptr]string

// see takes a list in; false, if it was there.
func (m memory) see(list any, name string) bool {
	v := reflect.ValueOf(list)
	if v.Cap() == 0 {
		return true
	}
	at := v.Slice3(0, 0, 1).Slice(0, 1).Index(0).Addr().Pointer()
	_, there := m[at]
	m[at] = name
	return !there
}

func (m memory) seeType(t kinds.Type, name string) bool {
	ok := m.see(t.Args, name)
	for i, x := range t.Args {
		ok = m.seeType(x, name+"."+strconv.Itoa(i)) && ok
	}
	return ok
}

func (m memory) seeNode(n api.Node, name string) bool {
	ok := m.see(n.Kids, name)
	for i, x := range n.Kids {
		ok = m.seeNode(x, name+"."+strconv.Itoa(i)) && ok
	}
	return ok
}

// R4: what is handed in is neither changed nor kept, what is handed out is new.
func TestMemory(t *testing.T) {
	for seed := range 3000 {
		m := defs.Grow(rows.Noise(seed, 100))
		l, x, y := m.Defs(), m.Type(5), m.Type(4)
		x.Args = append(x.Args, y, y)[:len(x.Args)]
		params, by := []string{"A", "P", "Q"}, []kinds.Type{y, y, x}
		before := [...]string{defs.Written(x), defs.Written(typ(0, "", x.Args[:cap(x.Args)]...)), defs.Written(typ(0, "", by...))}
		seen := memory{}
		seen.seeType(x, "x")
		seen.seeType(y, "y")
		for _, d := range l {
			seen.seeType(d.Type, d.Name)
		}
		for name, got := range map[string]kinds.Type{"With": kinds.With(x, params, by), "Full": kinds.Full(l, x), "Behind": kinds.Behind(l, x), "Of": kinds.Of(kinds.Tree(x), params)} {
			if !seen.seeType(got, name) {
				t.Fatalf("R4: %s of %s shares memory", name, defs.Written(x))
			}
		}
		if !seen.seeNode(kinds.Tree(x), "Tree") {
			t.Fatalf("R4: Tree of %s shares memory", defs.Written(x))
		}
		kinds.Assigns(l, x, y)
		if before != [...]string{defs.Written(x), defs.Written(typ(0, "", x.Args[:cap(x.Args)]...)), defs.Written(typ(0, "", by...))} {
			t.Fatalf("R4: %s was changed", before[0])
		}
	}
}

// R1: every call ends, whatever is within one another.
func TestDeep(t *testing.T) {
	p := typ(4, "P")
	deep := defs.Slices(9999, p)
	l := []kinds.Def{{Name: "N", Params: []string{"P"}, Type: deep}, {Name: "A", Params: []string{"P"}, Type: deep, Alias: true}}
	n := typ(3, "N", typ(1, "int"))
	is(t, "P10.1: Behind of a deep definition", kinds.Behind(l, n), defs.Slices(9999, typ(1, "int")))
	is(t, "P10.1: Full of a deep alias", kinds.Full(l, typ(3, "A", typ(1, "int"))), defs.Slices(9999, typ(1, "int")))
	is(t, "P10.1: Full of a deep type", kinds.Full(l, deep), deep)
	is(t, "P10.1: With of a deep type", kinds.With(deep, []string{"P"}, []kinds.Type{deep}), defs.Slices(19998, p))
	if kinds.Assigns(l, n, n) != true || kinds.Assigns(l, n, defs.Slices(9999, typ(1, "int"))) || kinds.Comparable(l, n) || kinds.Text(deep) != "" || kinds.Of(kinds.Tree(deep), nil).Kind != 0 {
		t.Error("P10.1, P10.2: deep types")
	}
}
