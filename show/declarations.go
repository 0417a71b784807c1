package show

import "demotic/api"

// file tells a file.
func (w *writer) file(n api.Node) {
	w.put("package ", n.Text, "\n")
	for _, d := range n.Kids {
		w.put("\n")
		w.declaration(d)
		w.put("\n")
	}
}

func (w *writer) declaration(n api.Node) {
	switch n.Kind {
	case api.Func:
		w.put("func ", n.Text)
		w.typeParams(n.Kids[0])
		w.function(n.Kids[1:])
	case api.Type:
		w.put("type ", n.Text)
		w.typeParams(n.Kids[0])
		w.behind(" ", w.typ, n.Kids[1])
	case api.Alias:
		w.put("type ", n.Text)
		w.typeParams(n.Kids[0])
		w.behind(" = ", w.typ, n.Kids[1])
	case api.Var:
		w.variable(n)
	}
}

func (w *writer) variable(n api.Node) {
	w.put("var ", n.Text)
	w.behind(" ", w.typ, n.Kids[0])
	w.behind(" = ", w.expression, n.Kids[1])
}

// typeParams tells parameters of types, if there are some.
func (w *writer) typeParams(list api.Node) {
	if len(list.Kids) > 0 {
		w.enclosed("[", "]", w.named, list.Kids...)
	}
}

// function tells a signature and a block.
func (w *writer) function(parts []api.Node) {
	w.signature(parts[0])
	w.behind(" ", w.block, parts[1])
}

func (w *writer) signature(n api.Node) {
	w.enclosed("(", ")", w.param, n.Kids[0].Kids...)
	w.behind(" ", w.typ, n.Kids[1])
}

func (w *writer) param(n api.Node) {
	if n.Text == "" {
		w.typ(n.Kids[0])
		return
	}
	w.named(n)
}

// named tells a name with a type behind it.
func (w *writer) named(n api.Node) {
	w.put(n.Text)
	w.behind(" ", w.typ, n.Kids[0])
}

// typ tells a type, and what may stand in the place of one in a declaration.
func (w *writer) typ(n api.Node) {
	switch n.Kind {
	case api.TName:
		w.put(n.Text)
		if len(n.Kids) > 0 {
			w.enclosed("[", "]", w.typ, n.Kids...)
		}
	case api.TSlice:
		w.put("[]")
		w.typ(n.Kids[0])
	case api.TFunc:
		w.put("func")
		w.signature(n)
	case api.TStruct:
		w.put("struct ")
		w.lines(w.named, n.Kids...)
	case api.TInter:
		w.put("interface{ ")
		w.row(" | ", w.term, n.Kids...)
		w.put(" }")
	}
}

func (w *writer) term(n api.Node) {
	w.put(n.Text)
	w.typ(n.Kids[0])
}
