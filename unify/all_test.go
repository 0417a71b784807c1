package unify_test

import (
	"slices"
	"testing"

	"demotic/defs"
	"demotic/kinds"
	"demotic/rows"
	"demotic/unify"
)

// pair is what lies on a parameter of the row.
type pair struct {
	name string
	t    kinds.Type
}

// laid lays a pattern on a type, both in full, and tells what lies on parameters of the row; false, where something else lies on something else.
func laid(l []kinds.Def, row []string, p, t kinds.Type, level int) ([]pair, bool) {
	if level > 100 || p.Kind == 0 || t.Kind == 0 {
		return nil, false
	}
	if p.Kind == 4 && slices.Contains(row, p.Name) {
		return []pair{{p.Name, t}}, true
	}
	if p.Kind != 3 && p.Kind != 5 && p.Kind != 6 {
		return nil, defs.Written(p) == defs.Written(t)
	}
	if b := kinds.Full(l, kinds.Behind(l, t)); p.Kind != 3 && t.Kind == 3 {
		t = b
	}
	if p.Kind != t.Kind || p.Name != t.Name || len(p.Args) != len(t.Args) {
		return nil, false
	}
	var out []pair
	for i := range p.Args {
		more, ok := laid(l, row, p.Args[i], t.Args[i], level+1)
		if !ok {
			return nil, false
		}
		out = append(out, more...)
	}
	return out, true
}

// likeFits holds Fits against what lies on parameters: of each it must be one type.
func likeFits(t *testing.T, l []kinds.Def, row []string, pattern, x kinds.Type, by []kinds.Type) bool {
	var want []kinds.Type
	pairs, ok := laid(l, row, kinds.Full(l, pattern), kinds.Full(l, x), 1)
	for i, name := range row {
		stands := kinds.Full(l, by[i])
		if stands.Kind == 0 {
			stands = kinds.Type{}
		}
		for _, pair := range pairs {
			if pair.name == name && stands.Kind == 0 {
				stands = pair.t
			}
			ok = ok && (pair.name != name || defs.Written(stands) == defs.Written(pair.t))
		}
		want = append(want, stands)
	}
	if !ok {
		want = nil
	}
	got, is := unify.Fits(l, row, pattern, x, by)
	if is != ok || written(got) != written(want) {
		t.Fatalf("P12.1: Fits(%s, %s), of the row %q by %s, with %v: %s, %t, not %s", defs.Written(pattern), defs.Written(x), row, written(by), l, written(got), is, written(want))
	}
	return ok
}

// likeFind holds Find against what Fits tells of one pair behind another one.
func likeFind(t *testing.T, l []kinds.Def, row []string, patterns, types []kinds.Type) bool {
	by, ok := make([]kinds.Type, len(row)), true
	for i := range patterns {
		if ok && types[i].Kind != 2 {
			by, ok = unify.Fits(l, row, patterns[i], types[i], by)
		}
	}
	for i, name := range row {
		var names []string // of the untyped ones that are there for it
		for j, p := range patterns {
			if types[j].Kind == 2 && p.Kind == 4 && p.Name == name {
				names = append(names, types[j].Name)
			}
		}
		if names = slices.Compact(names); ok && by[i].Kind == 0 && len(names) > 0 {
			ok = len(names) == 1
			by[i] = defs.Make(1, names[0])
		}
		ok = ok && by[i].Kind != 0
	}
	if !ok {
		by = nil
	}
	got, is := unify.Find(l, row, patterns, types)
	if is != ok || written(got) != written(by) {
		t.Fatalf("P12.1: Find of %s, %s, of the row %q, with %v: %s, %t, not %s", written(patterns), written(types), row, l, written(got), is, written(by))
	}
	for i, p := range patterns {
		if p = kinds.Full(l, p); ok && types[i].Kind != 2 && !hidden(row, p) {
			follows(t, l, p, types[i], kinds.Full(l, kinds.With(p, row, by)))
		}
	}
	return ok
}

// hidden: does a parameter of the row stand in what has no parts, as in a struct? There it is not looked for, whatever is found for it.
func hidden(row []string, p kinds.Type) bool {
	if p.Kind == 4 && slices.Contains(row, p.Name) {
		return false
	}
	parts := p.Kind == 3 || p.Kind == 5 || p.Kind == 6
	return slices.ContainsFunc(p.Args, func(x kinds.Type) bool {
		return hidden(row, x) || !parts && defs.Written(x) != defs.Written(kinds.With(x, row, make([]kinds.Type, len(row))))
	})
}

// follows holds a pattern with what was found for its parameters, in full, against its type.
func follows(t *testing.T, l []kinds.Def, pattern, x, made kinds.Type) {
	full := kinds.Full(l, x)
	behind := kinds.Full(l, kinds.Behind(l, full))
	if !alike(l, made, full) {
		t.Fatalf("P12.2: with what was found %s is %s, which %s is nowhere, with %v", defs.Written(pattern), defs.Written(made), defs.Written(x), l)
	}
	if plain(l, full) && plain(l, behind) && defs.Written(made) != defs.Written(full) && defs.Written(made) != defs.Written(behind) {
		t.Fatalf("P12.2: with what was found %s is %s, which %s is not, with %v", defs.Written(pattern), defs.Written(made), defs.Written(x), l)
	}
}

// alike: are they the same, or stands what one is behind the other one, here or part by part?
func alike(l []kinds.Def, a, t kinds.Type) bool {
	if defs.Written(a) == defs.Written(t) {
		return true
	}
	if t.Kind == 3 && (a.Kind == 5 || a.Kind == 6) {
		t = kinds.Full(l, kinds.Behind(l, t))
	}
	return a.Kind == t.Kind && a.Name == t.Name && slices.EqualFunc(a.Args, t.Args, func(a, t kinds.Type) bool { return alike(l, a, t) })
}

// plain: is nothing in a type a named one behind which a slice or a function stands? (Where one is, P12.2 holds part by part.)
func plain(l []kinds.Def, t kinds.Type) bool {
	return !slices.ContainsFunc(t.Args, func(x kinds.Type) bool {
		b := kinds.Behind(l, x)
		return x.Kind == 3 && (b.Kind == 5 || b.Kind == 6) || !plain(l, x)
	})
}

// pattern is a type, in which what g chooses is a parameter, or written out, or what stands behind it.
func pattern(g *defs.Grower, l []kinds.Def, names []string, t kinds.Type) kinds.Type {
	switch way := g.Pick(10); {
	case way < 4 && len(names) > 0:
		return defs.Make(4, names[g.Pick(len(names))])
	case way == 4:
		return defs.Make(4, g.Name())
	case way == 5:
		return kinds.Full(l, t)
	case way > 6:
		t = kinds.Full(l, kinds.Behind(l, t))
	}
	var args []kinds.Type
	for _, x := range t.Args {
		args = append(args, pattern(g, l, names, x))
	}
	t.Args = args
	return t
}

// grown tells definitions of any bytes, or, often, some that are right.
func grown(g *defs.Grower) []kinds.Def {
	if g.Pick(3) == 0 {
		return g.Defs()
	}
	return defs.Of("type A []D; type B[P any] []P; type C[P any, Q any] func(P) Q; type D = func(A) int; type x[P any] = []B[P]; type P int; type Q = x[int]")
}

// likeAll holds what is told of patterns and types, right or not, against other ways to tell it. It tells how much was found.
func likeAll(t *testing.T, b []byte) (fits, found int) {
	g := defs.Grow(b)
	l := grown(g)
	names := []string{"P", "Q", "A", "x", "", "B"}[:[...]int{1, 1, 2, 2, 3, 6, 0}[g.Pick(7)]]
	var patterns, types, by []kinds.Type
	for range names {
		by = append(by, [...]kinds.Type{{}, {}, {}, g.Type(2)}[g.Pick(4)])
	}
	for range g.Pick(5) {
		x := g.Type(4)
		p := pattern(g, l, names, x)
		types, patterns = append(types, x), append(patterns, p)
		likeFits(t, l, names, g.Type(3), x, by)
		if likeFits(t, l, names, p, x, by) && x.Kind == 3 && (p.Kind == 5 || p.Kind == 6) {
			fits++
		}
	}
	if likeFind(t, l, names, patterns, types) && len(names) > 0 {
		found++
	}
	return fits, found
}

// P12.1, P12.2: of definitions, patterns and types, right or not.
func TestNoise(t *testing.T) {
	fits, found := 0, 0
	for seed := range 60000 {
		some, more := likeAll(t, rows.Noise(seed, 20+seed%130))
		fits, found = fits+some, found+more
	}
	if fits < 500 || found < 2000 {
		t.Errorf("just %d fit what stands behind a name, and %d were found", fits, found)
	}
}

// FuzzUnify looks for patterns and types of which something else is told.
func FuzzUnify(f *testing.F) {
	for seed := range 20 {
		f.Add(rows.Noise(seed, 100))
	}
	f.Fuzz(func(t *testing.T, b []byte) {
		if len(b) < 400 {
			likeAll(t, b)
		}
	})
}

// small tells all types of so many within one another, of these names, slices, functions of one parameter and L.
func small(deep int, names ...string) []kinds.Type {
	var l []kinds.Type
	for _, s := range names {
		l = append(l, typ(s))
	}
	if deep == 1 {
		return l
	}
	in := small(deep-1, names...)
	for _, x := range in {
		l = append(l, defs.Slices(1, x), defs.Make(3, "L", x))
		if deep > 2 && len(x.Args) > 0 {
			continue
		}
		for _, y := range in[:len(names)] {
			l = append(l, defs.Make(6, "", x, y))
		}
	}
	return l
}

// P12.1, P12.2: of all small patterns and types.
func TestSmall(t *testing.T) {
	l := definitions()
	patterns, types := small(3, "P", "Q", "int", "R", "A"), small(3, "int", "T", "R", "A", "F", "#nothing")
	none := make([]kinds.Type, 2)
	for _, p := range patterns {
		for _, x := range types {
			likeFits(t, l, row(), p, x, none)
			if by, ok := unify.Fits(l, row(), p, x, none); ok {
				follows(t, l, p, x, kinds.Full(l, kinds.With(p, row(), by)))
			}
		}
	}
}

// P12.2: with what is found a pattern is the same in full as its type, or stands behind it.
func TestFollows(t *testing.T) {
	l := definitions()
	for _, x := range []struct{ pattern, t, want string }{
		{"P", "A", "[]N"}, {"P", "R", "R"}, {"[]P", "R", "[]T"}, {"[]P", "K", "[]T"}, {"[]P", "M[A]", "[][]N"}, {"func(P) []N", "E[T]", "func(T) []N"}, {"func(P) T", "F", "func(int) T"}, {"L[P]", "M[A]", "L[[]N]"}, {"W[P]", "R", "[]T"}, {"func(P, P)", "func(R, R)", "func(R, R)"}, {"[]L[P]", "[]L[R]", "[]L[R]"}, {"Y[P]", "F", "F"},
	} {
		by, ok := unify.Find(l, []string{"P"}, all(x.pattern), all(x.t))
		made := kinds.Full(l, kinds.With(typ(x.pattern), []string{"P"}, by))
		if !ok || defs.Written(made) != defs.Written(typ(x.want)) {
			t.Errorf("P12.2: %s, found for %s, is %s, not %s", x.pattern, x.t, defs.Written(made), x.want)
		}
		if full := kinds.Full(l, typ(x.t)); !kinds.Same(made, full) && !kinds.Same(made, kinds.Full(l, kinds.Behind(l, full))) {
			t.Errorf("P12.2: %s, found for %s", x.pattern, x.t)
		}
	}
}

// spoil changes all that is in a type, and the room behind it.
func spoil(t kinds.Type) {
	for i, x := range t.Args {
		spoil(x)
		t.Args[i] = kinds.Type{Kind: 9, Name: "spoilt"}
	}
	for i := range t.Args[len(t.Args):cap(t.Args)] {
		t.Args[:cap(t.Args)][len(t.Args)+i] = kinds.Type{Kind: 9, Name: "spoilt"}
	}
}

// roomy is a type with room behind all its lists, in which another one stands.
func roomy(t kinds.Type) kinds.Type {
	var args []kinds.Type
	for _, x := range t.Args {
		args = append(args, roomy(x))
	}
	t.Args = append(args, typ("int"), typ("T"))[:len(args)]
	return t
}

// snapshot tells all that is in types, and behind their ends.
func snapshot(l []kinds.Type) string {
	s := written(l[:cap(l)])
	for _, x := range l {
		s += snapshot(x.Args)
	}
	return s
}

// R4: what is handed in is neither changed nor kept, what is handed out is new, and shares nothing with itself.
func TestMemory(t *testing.T) {
	found := 0
	for seed := range 6000 {
		g := defs.Grow(rows.Noise(seed, 150))
		l, x := grown(g), roomy(g.Type(5))
		names := append([]string{"P", "Q", "A"}, "B", "C")[:3]
		given := append(make([]kinds.Type, 0, 10), x, roomy(pattern(g, l, names, x)), roomy(g.Type(3)), kinds.Type{}, kinds.Type{}, x, x)[:5]
		for _, d := range l {
			given = append(given, d.Type)
		}
		before := snapshot(given)
		for i, get := range []func() ([]kinds.Type, bool){
			func() ([]kinds.Type, bool) { return unify.Fits(l, names, given[1], x, given[2:5]) },
			func() ([]kinds.Type, bool) {
				return unify.Find(l, names[:1], given[1:3:3], append(given[:1:1], given[2]))
			},
		} {
			first, ok := get()
			want := written(first)
			for j := range first { // nothing changes what stands behind it
				rest := written(first[j+1:])
				spoil(first[j])
				first[j] = kinds.Type{Kind: 9, Name: "spoilt"}
				if written(first[j+1:]) != rest {
					t.Fatalf("R4: call %d, of seed %d: parts of %s share memory", i, seed, want)
				}
			}
			if again, _ := get(); written(again) != want || snapshot(given) != before {
				t.Fatalf("R4: call %d, of seed %d: what is handed in was changed, or kept", i, seed)
			}
			if ok {
				found++
			}
		}
	}
	if found < 1000 {
		t.Errorf("just %d were found", found)
	}
}
