package defs

import (
	"strconv"

	"demotic/kinds"
)

// Grower makes types and definitions of any bytes, which choose what is in them: without bytes the first of all ways is taken.
type Grower struct{ b []byte }

// Grow is one of these bytes.
func Grow(b []byte) *Grower { return &Grower{b} }

// Pick chooses one of n.
func (g *Grower) Pick(n int) int {
	if len(g.b) == 0 {
		return 0
	}
	x := int(g.b[0]) % n
	g.b = g.b[1:]
	return x
}

// Name chooses a name, right or not.
func (g *Grower) Name() string {
	l := [...]string{"A", "B", "C", "D", "P", "Q", "int", "bool", "string", "", "x"}
	return l[g.Pick(len(l))]
}

// Type makes a type, right or not, with at most so many within one another.
func (g *Grower) Type(room int) kinds.Type {
	l := [...]int{1, 3, 3, 3, 4, 4, 5, 6, 3, 2, 7, 8, 0, 9}
	t := Make(l[g.Pick(len(l))], g.Name())
	for range [...]int{0, 0, 0, 1, 1, 2, 3}[g.Pick(7)] {
		if room > 1 {
			t.Args = append(t.Args, g.Type(room-1))
		}
	}
	return t
}

// Defs makes a few definitions, right or not.
func (g *Grower) Defs() []kinds.Def {
	var l []kinds.Def
	for range g.Pick(7) {
		d := kinds.Def{Name: g.Name(), Alias: g.Pick(3) > 0}
		for range [...]int{0, 0, 1, 2}[g.Pick(4)] {
			d.Params = append(d.Params, g.Name())
		}
		d.Type = g.Type(3)
		l = append(l, d)
	}
	return l
}

// Make makes a type.
func Make(kind int, name string, args ...kinds.Type) kinds.Type {
	return kinds.Type{Kind: kind, Name: name, Args: args}
}

// Slices is a type in so many slices.
func Slices(count int, t kinds.Type) kinds.Type {
	for range count {
		t = Make(5, "", t)
	}
	return t
}

// Function is one of so many parameters that are int, without a result: there are so many and 2 types in it.
func Function(params int) kinds.Type {
	var l []kinds.Type
	for range params {
		l = append(l, Make(1, "int"))
	}
	return Make(6, "", append(l, Make(7, ""))...)
}

// Written tells a type as a text: two have the same one, if they are the same, however deep.
func Written(t kinds.Type) string { return string(write(nil, t)) }

func write(out []byte, t kinds.Type) []byte {
	out = strconv.AppendQuote(strconv.AppendInt(append(out, '('), int64(t.Kind), 10), t.Name)
	for _, x := range t.Args {
		out = write(out, x)
	}
	return append(out, ')')
}
