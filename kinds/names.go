package kinds

import "slices"

const (
	maxSteps  = 99    // from names to what stands behind them
	maxInStep = 1000  // types in a named one from which a step is done
	maxWithin = 100   // names of aliases within one another
	maxLooked = 19999 // types that are looked at for one in full
)

// find tells the definition of a named type: the first one of its name, or one of no type and no alias, if there is none.
func find(l []Def, t Type) Def {
	if t.Kind == named {
		for i := range l {
			if l[i].Name == t.Name {
				return l[i]
			}
		}
	}
	return Def{}
}

// stead tells which type stands in the place of a parameter.
func stead(t Type, params []string, by []Type) (Type, bool) {
	if t.Kind == parameter {
		if i := slices.Index(params, t.Name); i >= 0 && i < len(by) {
			return by[i], true
		}
	}
	return Type{}, false
}

// with puts types in the place of parameters, each as put has it.
func with(t Type, params []string, by []Type, put func(Type) Type) Type {
	if other, ok := stead(t, params, by); ok {
		return put(other)
	}
	t.Args = turned(t.Args, func(x Type) Type { return with(x, params, by, put) })
	return t
}

// behind is Behind, whose answer may share memory with what is handed in, and with itself: what a step makes is then no greater than a definition, however great what was given is.
func behind(l []Def, t Type) Type {
	asIs := func(t Type) Type { return t }
	for range maxSteps {
		if t.Kind != named {
			break
		}
		d := find(l, t)
		if len(d.Params) != len(t.Args) || count(t) > maxInStep {
			return Type{Kind: none}
		}
		t = with(d.Type, d.Params, t.Args, asIs)
	}
	if t.Kind == named {
		return Type{Kind: none}
	}
	return t
}

// count tells how many types are in one, and it.
func count(t Type) int {
	n := 1
	for _, x := range t.Args {
		n += count(x)
	}
	return n
}

// writer writes aliases out, and counts the types that are looked at.
type writer struct {
	l      []Def
	looked int
	wrong  bool // nothing comes of it
}

// full tells a type in full that stands in so many aliases, with types in full for its parameters.
func (w *writer) full(t Type, params []string, by []Type, within int) Type {
	if other, ok := stead(t, params, by); ok {
		return w.full(other, nil, nil, within)
	}
	w.looked++
	w.wrong = w.wrong || w.looked > maxLooked
	if w.wrong {
		return Type{Kind: none}
	}
	t.Args = turned(t.Args, func(x Type) Type { return w.full(x, params, by, within) })
	d := find(w.l, t)
	if !d.Alias {
		return t
	}
	w.wrong = w.wrong || len(d.Params) != len(t.Args) || within == maxWithin
	return w.full(d.Type, d.Params, t.Args, within+1)
}
