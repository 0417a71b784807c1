package sets

import (
	"slices"

	"demotic/api"
)

// bareName: is it a name without types?
func bareName(n api.Node) bool { return n.Kind == api.TName && len(n.Kids) == 0 }

// union tells the constraint of a TInter.
func union(n api.Node) (Set, bool) {
	var s Set
	for _, x := range n.Kids {
		if !term(x) {
			return Set{}, false
		}
		s.Terms = append(s.Terms, Term{x.Text == "~", x.Kids[0].Text})
	}
	if n.Text != "" || !Right(s) {
		return Set{}, false
	}
	return s, true
}

// term: is it a Term with a name?
func term(n api.Node) bool {
	return n.Kind == api.Term && (n.Text == "" || n.Text == "~") && len(n.Kids) == 1 && bareName(n.Kids[0])
}

// among: are all names of terms among these?
func among(l []Term, names ...string) bool {
	there := make(map[string]struct{}, len(names))
	for _, name := range names {
		there[name] = struct{}{}
	}
	return all(l, func(x Term) bool {
		_, ok := there[x.Name]
		return ok
	})
}

// holds: are there terms, and are all of them in a union? Of one with ~ such a one must be there.
func (s Set) holds(l []Term) bool {
	there := make(map[string]Term, len(s.Terms))
	for _, x := range s.Terms {
		there[x.Name] = Term{x.Tilde || there[x.Name].Tilde, x.Name}
	}
	return len(l) > 0 && all(l, func(x Term) bool {
		y, ok := there[x.Name]
		return ok && (y.Tilde || !x.Tilde)
	})
}

// all: does it hold for each of them?
func all(l []Term, holds func(Term) bool) bool {
	return !slices.ContainsFunc(l, func(x Term) bool { return !holds(x) })
}
