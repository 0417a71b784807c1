package unify

import (
	"slices"

	"demotic/api"
	"demotic/kinds"
)

// Kinds of types, as layer 10 counts them.
const (
	none      = 0
	basic     = 1
	untyped   = 2
	named     = 3
	parameter = 4
	slice     = 5
	function  = 6
)

// fitter has what stands for the parameters of a row, which becomes more with each type that a pattern fits.
type fitter struct {
	l  []kinds.Def
	at func(t kinds.Type) int // a parameter's place in the row; -1 of what is none of it
	by []kinds.Type           // in full; kind 0 where nothing stands
}

// fitterOf is one for a row, for which nothing stands yet; false, if a name is there twice.
func fitterOf(l []kinds.Def, row []string) (*fitter, bool) {
	places := make(map[string]int, len(row))
	for i, name := range row {
		places[name] = i
	}
	at := func(t kinds.Type) int {
		if place, ok := places[t.Name]; ok && t.Kind == parameter {
			return place
		}
		return -1
	}
	return &fitter{l, at, make([]kinds.Type, len(row))}, len(places) == len(row)
}

// fits: does a pattern fit a type, both as they are handed in?
func (f *fitter) fits(pattern, t kinds.Type) bool {
	return within(pattern, api.MaxDepth) && within(t, api.MaxDepth) &&
		f.parts([]kinds.Type{f.full(pattern)}, []kinds.Type{f.full(t)}, 1)
}

// parts: does each pattern fit the type beside it? All are in full, and stand at one level within others.
func (f *fitter) parts(patterns, types []kinds.Type, level int) bool {
	if len(patterns) != len(types) {
		return false
	}
parts:
	for i, p := range patterns {
		t, at := types[i], f.at(p)
		switch {
		case absent(p) || absent(t) || level > api.MaxDepth:
			return false
		case at >= 0 && absent(f.by[at]):
			f.by[at] = t
			continue parts
		case at >= 0 && kinds.Same(f.by[at], t), at < 0 && f.made(p, t, level):
			continue parts
		}
		return false
	}
	return true
}

// made: does a pattern that is no parameter of the row fit a type?
func (f *fitter) made(p, t kinds.Type, level int) bool {
	switch {
	case (p.Kind == slice || p.Kind == function) && t.Kind == named:
		t = f.full(kinds.Behind(f.l, t))
	case p.Kind != slice && p.Kind != function && p.Kind != named:
		return kinds.Same(p, t)
	}
	return p.Kind == t.Kind && p.Name == t.Name && f.parts(p.Args, t.Args, level+1)
}

// full is a type in full; nothing at all, if it is none.
func (f *fitter) full(t kinds.Type) kinds.Type {
	t = kinds.Full(f.l, t)
	if absent(t) {
		return kinds.Type{}
	}
	return t
}

// within: are at most so many types within one another?
func within(t kinds.Type, most int) bool {
	return most > 0 && !slices.ContainsFunc(t.Args, func(x kinds.Type) bool { return !within(x, most-1) })
}

// absent: is it no type?
func absent(t kinds.Type) bool { return t.Kind == none }
