package show

import "demotic/api"

// writer is what was told, in how many blocks it stands, and whether that is a head, outside of brackets.
type writer struct {
	out  []byte
	deep int
	head bool
}

// sorts tells of each sort that has a text alone how it is told.
func (w *writer) sorts() map[string]func(api.Node) {
	return map[string]func(api.Node){
		"declaration": w.declaration,
		"type":        w.typ,
		"expression":  w.expression,
		"statement":   w.statement,
	}
}

// put puts texts behind what was told.
func (w *writer) put(l ...string) {
	for _, s := range l {
		w.out = append(w.out, s...)
	}
}

// row tells nodes, with a text between.
func (w *writer) row(between string, tell func(api.Node), l ...api.Node) {
	for i, n := range l {
		if i > 0 {
			w.put(between)
		}
		tell(n)
	}
}

// enclosed tells nodes with commas between, in brackets of some shape.
func (w *writer) enclosed(opening, closing string, tell func(api.Node), l ...api.Node) {
	w.put(opening)
	w.within(false, func() { w.row(", ", tell, l...) })
	w.put(closing)
}

// lines tells nodes in lines of their own, one deeper than what stands around.
func (w *writer) lines(tell func(api.Node), l ...api.Node) {
	w.put("{")
	w.deep++
	w.within(false, func() {
		for _, n := range l {
			w.line()
			tell(n)
		}
	})
	w.deep--
	w.line()
	w.put("}")
}

// line begins a line.
func (w *writer) line() {
	w.put("\n")
	for range w.deep {
		w.put("\t")
	}
}

// behind tells a node behind a text; nothing, if the node is None.
func (w *writer) behind(text string, tell func(api.Node), n api.Node) {
	if n.Kind != api.None {
		w.put(text)
		tell(n)
	}
}

// within tells something in a head, or outside of one.
func (w *writer) within(head bool, tell func()) {
	around := w.head
	w.head = head
	tell()
	w.head = around
}
