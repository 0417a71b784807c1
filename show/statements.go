package show

import (
	"strings"

	"demotic/api"
)

func (w *writer) statement(n api.Node) {
	switch n.Kind {
	case api.Var:
		w.variable(n)
	case api.SShort:
		w.put(n.Text)
		w.behind(" := ", w.expression, n.Kids[0])
	case api.SAssign:
		w.row(" = ", w.expression, n.Kids...)
	case api.SInc:
		w.expression(n.Kids[0])
		w.put(n.Text)
	case api.SExpr:
		w.expression(n.Kids[0])
	case api.SIf:
		w.branch(n)
	case api.SFor:
		w.loop(n)
	case api.SRange:
		w.ranged(n)
	case api.SReturn:
		w.put("return")
		w.behind(" ", w.expression, n.Kids[0])
	case api.SBreak:
		w.put("break")
	case api.SContinue:
		w.put("continue")
	case api.SBlock:
		w.block(n)
	}
}

func (w *writer) block(n api.Node) { w.lines(w.statement, n.Kids...) }

func (w *writer) branch(n api.Node) {
	w.put("if")
	w.within(true, func() { w.behind(" ", w.expression, n.Kids[0]) })
	w.behind(" ", w.block, n.Kids[1])
	w.behind(" else ", w.statement, n.Kids[2])
}

// loop tells an SFor: semicolons stand in it, where there is more than an expression.
func (w *writer) loop(n api.Node) {
	first, asked, post := n.Kids[0], n.Kids[1], n.Kids[2]
	between, last := "; ", post
	if first.Kind == api.None && post.Kind == api.None {
		between, last = "", asked
	}
	w.put("for ")
	w.within(true, func() {
		w.behind("", w.statement, first)
		w.put(between)
		w.behind("", w.expression, asked)
		w.put(between)
		w.behind("", w.statement, post)
	})
	if last.Kind != api.None {
		w.put(" ")
	}
	w.block(n.Kids[3])
}

func (w *writer) ranged(n api.Node) {
	w.put("for ")
	if n.Text != "" {
		w.put(strings.ReplaceAll(n.Text, ",", ", "), " := ")
	}
	w.put("range")
	w.within(true, func() { w.behind(" ", w.expression, n.Kids[0]) })
	w.behind(" ", w.block, n.Kids[1])
}
