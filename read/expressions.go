package read

import (
	"slices"

	"demotic/api"
)

// value is an expression, and how it is written: brackets leave no trace in a tree, but rules ask for them.
type value struct {
	node api.Node
	form form
}

type form int

const (
	plain   form = iota
	named        // a name
	indexed      // a name with types in [ ]
	typed        // another type
	called       // its last part is that in ( )
)

// alone reads an expression that stands alone.
func (r *reader) alone() api.Node {
	n := r.expr()
	if t := r.ahead(0); t.Kind == sign && t.Text == "\n" {
		r.next++
	}
	if r.next < len(r.tokens) {
		r.fail()
	}
	return n
}

func (r *reader) expr() api.Node { return r.value().node }

func (r *reader) value() value { return r.binary(1) }

// binary reads operands with signs between that bind at least so tightly.
func (r *reader) binary(least int) value {
	left := r.unary()
	for {
		t := r.ahead(0)
		level := tight(t.Text)
		if t.Kind != sign || level < least {
			return left
		}
		r.next++
		right := r.binary(level + 1)
		left = value{node: node(api.EBinary, t.Text, left.node.At, left.node, right.node)}
	}
}

// tight tells how tightly a sign between two operands binds: 0, if it is none.
func tight(sign string) int {
	switch sign {
	case "*", "/", "%":
		return 5
	case "+", "-":
		return 4
	case "==", "!=", "<", "<=", ">", ">=":
		return 3
	case "&&":
		return 2
	case "||":
		return 1
	}
	return 0
}

func (r *reader) unary() value {
	t := r.ahead(0)
	if r.takes("-") || r.takes("!") {
		return value{node: node(api.EUnary, t.Text, t.At, r.unary().node)}
	}
	return r.primary()
}

// primary reads an operand, and what belongs to it.
func (r *reader) primary() value {
	x := r.operand()
	for {
		switch literal := !r.head && (x.form == named || x.form == indexed); {
		case r.takes("("):
			args := rowOrNone(r, ",", ")", r.expr)
			x = value{x.begins(api.ECall, "", args...), called}
		case r.takes("["):
			x = x.index(row(r, ",", "]", r.part))
		case r.takes("."):
			x = value{node: x.begins(api.EField, r.name())}
		case literal && r.takes("{"):
			x = value{node: r.literal(typeOf(x.node))}
		default:
			return x
		}
	}
}

// begins makes a node whose first part this one is, and which begins where it does.
func (x value) begins(kind int, text string, l ...api.Node) api.Node {
	return node(kind, text, x.node.At, slices.Insert(l, 0, x.node)...)
}

// index makes an EIndex: a type, if all in it are.
func (x value) index(parts []value) value {
	f := indexed
	var l []api.Node
	for _, p := range parts {
		if x.form != named || !p.isType() {
			f = plain
		}
		l = append(l, p.node)
	}
	return value{x.begins(api.EIndex, "", l...), f}
}

// isType: might it be written where a type is asked for?
func (x value) isType() bool { return x.form == named || x.form == indexed || x.form == typed }

// typeOf makes a type of a name, and of one with types in [ ].
func typeOf(n api.Node) api.Node {
	switch n.Kind {
	case api.EName:
		return node(api.TName, n.Text, n.At)
	case api.EIndex:
		var l []api.Node
		for _, kid := range n.Kids[1:] {
			l = append(l, typeOf(kid))
		}
		return node(api.TName, n.Kids[0].Text, n.At, l...)
	}
	return n
}

// literal reads the rest of a literal behind its type and {.
func (r *reader) literal(typ api.Node) api.Node {
	l := rowOrNone(r, ",", "}", r.expr)
	return node(api.ELit, "", typ.At, slices.Insert(l, 0, typ)...)
}

// part reads what stands in [ ]. What begins as a type is one, but where a literal or a function goes on.
func (r *reader) part() value {
	begin := r.next
	if r.sees("[") || r.sees("func") && !r.paramNamed() {
		t := r.typ()
		if !r.sees("{") || t.Kind == api.TFunc && len(t.Kids[0].Kids) > 0 {
			return value{t, typed}
		}
		r.next = begin
	}
	return r.value()
}

// paramNamed: does a parameter with a name come behind func and ( that come next?
func (r *reader) paramNamed() bool {
	slice := !is(r.ahead(3), "[") || is(r.ahead(4), "]") // else what is in [ ] belongs to the name of a type
	return r.ahead(2).Kind == name && r.typeAhead(3) && slice
}

func (r *reader) operand() value {
	t := r.ahead(0)
	switch t.Kind {
	case number:
		r.next++
		return value{node: node(api.EInt, t.Text, t.At)}
	case text:
		r.next++
		return value{node: node(api.EStr, t.Text, t.At)}
	case name:
		r.next++
		return value{node(api.EName, t.Text, t.At), named}
	}
	switch {
	case r.takes("func"):
		return value{node: node(api.EFunc, "", t.At, r.signature(), r.block())}
	case r.sees("["):
		typ := r.typ()
		r.need("{")
		return value{node: r.literal(typ)}
	}
	return r.bracketed()
}

// bracketed reads an expression in brackets. A type stays one, but is no name any more.
func (r *reader) bracketed() value {
	r.need("(")
	x := within(r, false, r.value)
	r.need(")")
	if x.isType() {
		return value{x.node, typed}
	}
	return value{node: x.node}
}
