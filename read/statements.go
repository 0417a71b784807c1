package read

import (
	"slices"

	"demotic/api"
)

func (r *reader) block() api.Node {
	at := r.need("{")
	l := within(r, false, r.statements)
	r.need("}")
	return node(api.SBlock, "", at, l...)
}

// statements reads those of a block; empty ones leave nothing.
func (r *reader) statements() []api.Node {
	var l []api.Node
	for {
		for r.takes(";") {
		}
		if r.sees("}") {
			return l
		}
		l = append(l, r.statement())
		if !r.takes(";") {
			return l
		}
	}
}

func (r *reader) statement() api.Node {
	switch at := r.at(); {
	case r.sees("var"):
		return r.variable()
	case r.sees("{"):
		return r.block()
	case r.sees("if"):
		return r.branch()
	case r.takes("for"):
		n := within(r, true, r.header)
		n.At, n.Kids = at, append(n.Kids, r.block())
		return n
	case r.takes("return"):
		return node(api.SReturn, "", at, r.unless(r.expr, ";", "}"))
	case r.takes("break"):
		return node(api.SBreak, "", at)
	case r.takes("continue"):
		return node(api.SContinue, "", at)
	}
	return r.simple()
}

func (r *reader) branch() api.Node {
	at := r.need("if")
	asked, block, otherwise := within(r, true, r.expr), r.block(), api.Node{}
	if r.takes("else") {
		otherwise = r.otherwise()
	}
	return node(api.SIf, "", at, asked, block, otherwise)
}

// otherwise reads what stands behind the word else.
func (r *reader) otherwise() api.Node {
	if r.sees("if") {
		return r.branch()
	}
	return r.block()
}

// simple reads a statement that begins with an expression.
func (r *reader) simple() api.Node {
	at := r.at()
	return r.done(at, r.value())
}

// done reads the rest of a statement behind the expression with which it begins.
func (r *reader) done(at int, x value) api.Node {
	switch t := r.ahead(0); {
	case x.form == named && x.node.Text != "_" && r.takes(":="):
		return node(api.SShort, x.node.Text, at, r.expr())
	case r.takes("="):
		return node(api.SAssign, "", at, x.node, r.expr())
	case r.takes("++") || r.takes("--"):
		return node(api.SInc, t.Text, at, x.node)
	case x.form != called:
		r.fail()
	}
	return node(api.SExpr, "", at, x.node)
}

// header reads what stands between the word for and the block.
func (r *reader) header() api.Node {
	switch t := r.ahead(0); {
	case t.Kind == name && is(r.ahead(1), ","):
		r.next += 2
		names := t.Text + "," + r.variableName()
		r.need(":=")
		return r.ranged(names)
	case t.Kind == name && t.Text != "_" && is(r.ahead(1), ":=") && is(r.ahead(2), "range"):
		r.next += 2
		return r.ranged(t.Text)
	case r.sees("range"):
		return r.ranged("")
	}
	return r.clauses()
}

// variableName takes a name that is not _.
func (r *reader) variableName() string {
	if is(r.ahead(0), "_") {
		r.fail()
	}
	return r.name()
}

func (r *reader) ranged(names string) api.Node {
	r.need("range")
	return node(api.SRange, names, 0, r.expr())
}

// clauses reads an expression, or as much as there is ahead of, between and behind two semicolons.
func (r *reader) clauses() api.Node {
	var first, none api.Node
	switch at := r.at(); {
	case r.sees("{"):
		return node(api.SFor, "", 0, none, none, none)
	case !r.sees(";"):
		x := r.value()
		if r.sees("{") {
			return node(api.SFor, "", 0, none, x.node, none)
		}
		first = r.done(at, x)
	}
	r.need(";")
	asked := r.unless(r.expr, ";")
	r.need(";")
	return node(api.SFor, "", 0, first, asked, r.unless(r.simple, "{"))
}

// unless reads something, but where it is left out one of these comes, and it is None.
func (r *reader) unless(read func() api.Node, ends ...string) api.Node {
	if slices.ContainsFunc(ends, r.sees) {
		return api.Node{}
	}
	return read()
}
