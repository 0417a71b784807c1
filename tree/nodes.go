package tree

import (
	"iter"
	"slices"

	"demotic/api"
)

// nodes tells n and all that is in it, each with its level: 1 is that of n, and below the level most nothing is told.
func nodes(n api.Node, most int) iter.Seq2[int, api.Node] {
	return func(yield func(int, api.Node) bool) {
		walk(n, 1, most, yield)
	}
}

// walk goes through n; false, if it is to end.
func walk(n api.Node, level, most int, yield func(int, api.Node) bool) bool {
	if level > most {
		return true
	}
	if !yield(level, n) {
		return false
	}
	for _, kid := range n.Kids {
		if !walk(kid, level+1, most, yield) {
			return false
		}
	}
	return true
}

// fits: is it neither too deep nor too great?
func fits(n api.Node) bool {
	count := 0
	for level := range nodes(n, api.MaxDepth+1) {
		count++
		if level > api.MaxDepth || count > maxNodes {
			return false
		}
	}
	return true
}

// same: are they, with at most so many within one another?
func same(a, b api.Node, room int) bool {
	return room > 0 && a.Kind == b.Kind && a.Text == b.Text && slices.EqualFunc(a.Kids, b.Kids, func(x, y api.Node) bool {
		return same(x, y, room-1)
	})
}

// made makes n anew, with what a closure puts in the place of a node; what is deeper than room is left.
func made(n api.Node, room int, put func(api.Node) (api.Node, bool)) api.Node {
	if room == 0 {
		return n
	}
	if by, ok := put(n); ok {
		return by
	}
	var kids []api.Node
	for _, kid := range n.Kids {
		kids = append(kids, made(kid, room-1, put))
	}
	n.Kids = kids
	return n
}
