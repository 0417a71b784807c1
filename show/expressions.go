package show

import (
	"demotic/api"
	"demotic/lit"
)

// expression tells one; in a head a literal with a name would end it, were there no brackets.
func (w *writer) expression(n api.Node) {
	switch n.Kind {
	case api.EInt, api.EName:
		w.put(n.Text)
	case api.EStr:
		w.put(lit.Quote(n.Text))
	case api.EUnary:
		w.unary(n)
	case api.EBinary:
		w.binary(n)
	case api.ECall:
		w.primary(n.Kids[0])
		w.enclosed("(", ")", w.expression, n.Kids[1:]...)
	case api.EIndex:
		w.primary(n.Kids[0])
		w.enclosed("[", "]", w.part, n.Kids[1:]...)
	case api.EField:
		w.primary(n.Kids[0])
		w.put(".", n.Text)
	case api.ELit:
		w.operand(n, w.head && n.Kids[0].Kind == api.TName, w.literal)
	case api.EFunc:
		w.put("func")
		w.function(n.Kids)
	}
}

func (w *writer) literal(n api.Node) {
	w.typ(n.Kids[0])
	w.enclosed("{", "}", w.expression, n.Kids[1:]...)
}

// part tells what stands in [ ].
func (w *writer) part(n api.Node) {
	if n.Kind == api.TSlice || n.Kind == api.TFunc {
		w.typ(n)
		return
	}
	w.expression(n)
}

func (w *writer) unary(n api.Node) {
	x := n.Kids[0]
	minus := n.Text == "-" && x.Kind == api.EUnary && x.Text == "-" // the two would be another sign
	w.put(n.Text)
	w.operand(x, x.Kind == api.EBinary || minus, w.expression)
}

func (w *writer) binary(n api.Node) {
	left, right, level := n.Kids[0], n.Kids[1], tight(n.Text)
	w.operand(left, left.Kind == api.EBinary && tight(left.Text) < level, w.expression)
	w.put(" ", n.Text, " ")
	w.operand(right, right.Kind == api.EBinary && tight(right.Text) <= level, w.expression)
}

// primary tells what is called, indexed, or whose field is told.
func (w *writer) primary(n api.Node) {
	w.operand(n, n.Kind == api.EUnary || n.Kind == api.EBinary, w.expression)
}

// operand tells one, in brackets where they are needed.
func (w *writer) operand(n api.Node, needed bool, tell func(api.Node)) {
	if needed {
		w.enclosed("(", ")", tell, n)
		return
	}
	tell(n)
}

// tight tells how tightly a sign between two operands binds.
func tight(sign string) int {
	switch sign {
	case "*", "/", "%":
		return 5
	case "+", "-":
		return 4
	case "==", "!=", "<", "<=", ">", ">=":
		return 3
	case "&&":
		return 2
	}
	return 1
}
