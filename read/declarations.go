package read

import "demotic/api"

func (r *reader) file() api.Node {
	at := r.need("package")
	n := node(api.File, r.name(), at)
	r.need(";")
	for r.next < len(r.tokens) {
		n.Kids = append(n.Kids, r.declaration())
		r.need(";")
	}
	return n
}

func (r *reader) declaration() api.Node {
	switch at := r.at(); {
	case r.takes("func"):
		return node(api.Func, r.name(), at, r.typeParams(r.sees("[")), r.signature(), r.block())
	case r.takes("type"):
		return r.defined(at)
	}
	return r.variable()
}

// defined reads what stands behind the word type. A type that begins with [ ] begins as parameters of types do.
func (r *reader) defined(at int) api.Node {
	s := r.name()
	params := r.typeParams(r.sees("[") && !is(r.ahead(1), "]"))
	switch {
	case r.takes("="):
		return node(api.Alias, s, at, params, r.typ())
	case r.sees("struct"):
		return node(api.Type, s, at, params, r.structure())
	case r.sees("interface"):
		return node(api.Type, s, at, params, r.inter())
	}
	return node(api.Type, s, at, params, r.typ())
}

func (r *reader) variable() api.Node {
	at := r.need("var")
	s := r.name()
	if r.takes("=") {
		return node(api.Var, s, at, api.Node{}, r.expr())
	}
	typ, x := r.typ(), api.Node{}
	if r.takes("=") {
		x = r.expr()
	}
	return node(api.Var, s, at, typ, x)
}

// typeParams reads parameters of types, where there are some.
func (r *reader) typeParams(there bool) api.Node {
	if !there {
		return node(api.List, "", 0)
	}
	at := r.need("[")
	return node(api.List, "", at, row(r, ",", "]", r.typeParam)...)
}

func (r *reader) typeParam() api.Node {
	t := r.take(name)
	return node(api.TParam, t.Text, t.At, r.constraint())
}

// constraint reads one: a name that stands alone is itself.
func (r *reader) constraint() api.Node {
	if r.sees("interface") {
		return r.inter()
	}
	at := r.at()
	l := r.terms()
	if only := l[0].Kids[0]; len(l) == 1 && l[0].Text == "" && only.Kind == api.TName {
		return only
	}
	return node(api.TInter, "", at, l...)
}

func (r *reader) inter() api.Node {
	at := r.need("interface")
	r.need("{")
	l := r.terms()
	r.takes(";")
	r.need("}")
	return node(api.TInter, "", at, l...)
}

func (r *reader) terms() []api.Node {
	var l []api.Node
	for more := true; more; more = r.takes("|") {
		l = append(l, r.term())
	}
	return l
}

func (r *reader) term() api.Node {
	at := r.at()
	if r.takes("~") {
		return node(api.Term, "~", at, r.typ())
	}
	return node(api.Term, "", at, r.typ())
}

func (r *reader) structure() api.Node {
	at := r.need("struct")
	r.need("{")
	return node(api.TStruct, "", at, rowOrNone(r, ";", "}", r.field)...)
}

func (r *reader) field() api.Node { return r.named(api.Field) }

// param reads a parameter that has a name.
func (r *reader) param() api.Node { return r.named(api.Param) }

// named reads a name with a type behind it.
func (r *reader) named(kind int) api.Node {
	t := r.take(name)
	return node(kind, t.Text, t.At, r.typ())
}

// bare reads a parameter that has no name.
func (r *reader) bare() api.Node {
	at := r.at()
	return node(api.Param, "", at, r.typ())
}

// signature reads one whose parameters have names.
func (r *reader) signature() api.Node {
	at := r.at()
	return node(api.TFunc, "", at, r.params(r.param), r.result())
}

// params reads parameters in brackets.
func (r *reader) params(one func() api.Node) api.Node {
	at := r.need("(")
	return node(api.List, "", at, rowOrNone(r, ",", ")", one)...)
}

// result reads the type behind parameters, where one comes.
func (r *reader) result() api.Node {
	if r.typeAhead(0) {
		return r.typ()
	}
	return api.Node{}
}

// typeAhead: does a type come so many tokens behind the next one, if something else may come there, too?
func (r *reader) typeAhead(n int) bool {
	t := r.ahead(n)
	return t.Kind == name || is(t, "[") || is(t, "(") || is(t, "func")
}

func (r *reader) typ() api.Node {
	at := r.at()
	switch {
	case r.takes("["):
		r.need("]")
		return node(api.TSlice, "", at, r.typ())
	case r.takes("func"):
		return node(api.TFunc, "", at, r.params(r.bare), r.result())
	case r.takes("("):
		t := r.typ()
		r.need(")")
		return t
	}
	s := r.name()
	if r.takes("[") {
		return node(api.TName, s, at, row(r, ",", "]", r.typ)...)
	}
	return node(api.TName, s, at)
}
