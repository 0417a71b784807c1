package sets

import "demotic/kinds"

// Kinds of types, as layer 10 counts them.
const (
	none      = 0
	basic     = 1
	parameter = 4
)

// candidate is a type in full that may be let in; a parameter has its own constraint, if there is one.
type candidate struct {
	t   kinds.Type
	own Set
}

// right: may anything let it in?
func (c candidate) right() bool {
	return c.t.Kind != none && (c.t.Kind != parameter || Right(c.own))
}

// comparable: is it one that is, or a parameter for which such a one stands?
func (c candidate) comparable(l []kinds.Def) bool {
	return kinds.Comparable(l, c.t) || c.t.Kind == parameter && !c.own.All
}

// terms tells what must be there to let it in: none, where no union does.
func (c candidate) terms(l []kinds.Def) []Term {
	if c.t.Kind == parameter {
		return c.own.Terms
	}
	if b := kinds.Behind(l, c.t); b.Kind == basic {
		return []Term{{c.t.Kind != basic, b.Name}}
	}
	return nil
}
