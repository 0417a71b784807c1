package trees

import (
	"strconv"

	"demotic/api"
)

// Grow makes a right tree of a sort (layer 6) of any bytes, which choose what is in it, with at most so many nodes within one another (7 at least).
func Grow(b []byte, sort string, room int) api.Node {
	g := grower{b}
	switch sort {
	case "file":
		return node(api.File, g.name(), g.many(room-1, g.declaration)...)
	case "declaration":
		return g.declaration(room)
	case "type":
		return g.typ(room)
	case "statement":
		return g.statement(room)
	case "signature":
		return g.signature(room, true)
	}
	return g.expression(room)
}

// grower is what chooses: without bytes the first of all ways is taken, which is a short one.
type grower struct{ b []byte }

// pick chooses one of n.
func (g *grower) pick(n int) int {
	if len(g.b) == 0 {
		return 0
	}
	x := int(g.b[0]) % n
	g.b = g.b[1:]
	return x
}

// some makes a row of nodes, which have so much room each: of few or none, so that bytes are left for what comes behind.
func (g *grower) some(room int, one func(room int) api.Node) []api.Node {
	l := [...]int{0, 0, 0, 1, 1, 1, 2, 3}
	return g.times(l[g.pick(len(l))], room, one)
}

// many makes a row that may be longer.
func (g *grower) many(room int, one func(room int) api.Node) []api.Node {
	return g.times(g.pick(5), room, one)
}

func (g *grower) times(count, room int, one func(room int) api.Node) []api.Node {
	var l []api.Node
	for range count {
		l = append(l, one(room))
	}
	return l
}

func (g *grower) more(room int, one func(room int) api.Node) []api.Node {
	return append([]api.Node{one(room)}, g.some(room, one)...)
}

func (g *grower) name() string {
	l := [...]string{"a", "b", "_", "int", "T", "x1", "__", "any"}
	return l[g.pick(len(l))]
}

// variable is a name that is not _.
func (g *grower) variable() string {
	if s := g.name(); s != "_" {
		return s
	}
	return "v"
}

func (g *grower) declaration(room int) api.Node {
	switch g.pick(6) {
	case 1:
		return node(api.Func, g.name(), g.typeParams(room-1), g.signature(room-1, true), g.block(room-1))
	case 2:
		return node(api.Type, g.name(), g.typeParams(room-1), node(api.TStruct, "", g.some(room-2, g.field)...))
	case 3:
		return node(api.Type, g.name(), g.typeParams(room-1), g.inter(room-1))
	case 4:
		return node(api.Type, g.name(), g.typeParams(room-1), g.typ(room-1))
	case 5:
		return node(api.Alias, g.name(), g.typeParams(room-1), g.typ(room-1))
	}
	return g.declared(room)
}

// declared makes a Var.
func (g *grower) declared(room int) api.Node {
	switch g.pick(3) {
	case 1:
		return node(api.Var, g.name(), g.typ(room-1), node(api.None, ""))
	case 2:
		return node(api.Var, g.name(), node(api.None, ""), g.expression(room-1))
	}
	return node(api.Var, g.name(), g.typ(room-1), g.expression(room-1))
}

func (g *grower) typeParams(room int) api.Node {
	return node(api.List, "", g.some(room-1, g.typeParam)...)
}

func (g *grower) typeParam(room int) api.Node {
	if g.pick(2) == 0 {
		return node(api.TParam, g.name(), g.named(room-1))
	}
	return node(api.TParam, g.name(), g.inter(room-1))
}

func (g *grower) inter(room int) api.Node {
	return node(api.TInter, "", g.more(room-1, g.term)...)
}

func (g *grower) term(room int) api.Node {
	l := [...]string{"", "~"}
	return node(api.Term, l[g.pick(len(l))], g.typ(room-1))
}

func (g *grower) field(room int) api.Node { return node(api.Field, g.name(), g.typ(room-1)) }

func (g *grower) signature(room int, named bool) api.Node {
	params := node(api.List, "", g.some(room-2, func(room int) api.Node {
		if named {
			return node(api.Param, g.name(), g.typ(room-1))
		}
		return node(api.Param, "", g.typ(room-1))
	})...)
	return node(api.TFunc, "", params, g.unless(room-1, g.typ))
}

// unless makes a node, or None.
func (g *grower) unless(room int, one func(room int) api.Node) api.Node {
	if g.pick(2) == 0 {
		return node(api.None, "")
	}
	return one(room)
}

func (g *grower) typ(room int) api.Node {
	if room < 4 {
		return node(api.TName, g.name())
	}
	switch g.pick(7) {
	case 1:
		return node(api.TSlice, "", g.typ(room-1))
	case 2:
		return g.signature(room, false)
	case 3:
		return g.named(room)
	}
	return node(api.TName, g.name())
}

// named makes a TName.
func (g *grower) named(room int) api.Node {
	if room < 2 {
		return node(api.TName, g.name())
	}
	return node(api.TName, g.name(), g.some(room-1, g.typ)...)
}

func (g *grower) expression(room int) api.Node {
	if room < 5 {
		return node(api.EName, g.name())
	}
	room--
	switch g.pick(12) {
	case 1:
		return node(api.EInt, strconv.Itoa(g.pick(256)*g.pick(256)))
	case 2:
		l := [...]string{"", "s", "(", "\n", ":=", "\\\"\x00\u00e4\xff", "+", "_"}
		return node(api.EStr, l[g.pick(len(l))])
	case 3:
		l := [...]string{"-", "!"}
		return node(api.EUnary, l[g.pick(len(l))], g.expression(room))
	case 4, 5:
		l := [...]string{"+", "-", "*", "/", "%", "==", "!=", "<", "<=", ">", ">=", "&&", "||"}
		return node(api.EBinary, l[g.pick(len(l))], g.expression(room), g.expression(room))
	case 6, 7:
		return node(api.ECall, "", g.more(room, g.expression)...)
	case 8:
		return node(api.EIndex, "", append([]api.Node{g.expression(room)}, g.more(room, g.part)...)...)
	case 9:
		return node(api.EField, g.name(), g.expression(room))
	case 10:
		return node(api.ELit, "", append([]api.Node{g.literal(room)}, g.some(room, g.expression)...)...)
	case 11:
		return node(api.EFunc, "", g.signature(room, true), g.block(room))
	}
	return node(api.EName, g.name())
}

// part makes what may stand in an EIndex.
func (g *grower) part(room int) api.Node {
	switch g.pick(4) {
	case 1:
		return node(api.TSlice, "", g.typ(room-1))
	case 2:
		return g.signature(room, false)
	}
	return g.expression(room)
}

// literal makes a literal's type.
func (g *grower) literal(room int) api.Node {
	if g.pick(2) == 0 {
		return g.named(room)
	}
	return node(api.TSlice, "", g.typ(room-1))
}

func (g *grower) block(room int) api.Node {
	if room < 4 {
		return node(api.SBlock, "")
	}
	return node(api.SBlock, "", g.many(room-1, g.statement)...)
}

func (g *grower) statement(room int) api.Node {
	if room < 4 {
		return node(api.SBreak, "")
	}
	switch g.pick(12) {
	case 1:
		return g.short(room)
	case 2:
		return g.assigned(room)
	case 3:
		return g.counted(room)
	case 4:
		return g.call(room)
	case 5:
		return g.branch(room)
	case 6:
		return g.loop(room)
	case 7:
		return g.ranged(room)
	case 8:
		return node(api.SReturn, "", g.unless(room-1, g.expression))
	case 9:
		return node(api.SContinue, "")
	case 10:
		return g.block(room)
	case 11:
		return g.declared(room)
	}
	return node(api.SBreak, "")
}

func (g *grower) short(room int) api.Node {
	return node(api.SShort, g.variable(), g.expression(room-1))
}

func (g *grower) assigned(room int) api.Node {
	return node(api.SAssign, "", g.expression(room-1), g.expression(room-1))
}

func (g *grower) counted(room int) api.Node {
	l := [...]string{"++", "--"}
	return node(api.SInc, l[g.pick(len(l))], g.expression(room-1))
}

func (g *grower) call(room int) api.Node {
	return node(api.SExpr, "", node(api.ECall, "", g.more(room-2, g.expression)...))
}

func (g *grower) branch(room int) api.Node {
	asked, block := g.expression(room-1), g.block(room-1)
	switch g.pick(3) {
	case 1:
		return node(api.SIf, "", asked, block, g.block(room-1))
	case 2:
		if room > 4 {
			return node(api.SIf, "", asked, block, g.branch(room-1))
		}
	}
	return node(api.SIf, "", asked, block, node(api.None, ""))
}

func (g *grower) loop(room int) api.Node {
	first, post := node(api.None, ""), node(api.None, "")
	switch g.pick(4) {
	case 1:
		first = g.short(room - 1)
	case 2:
		first = g.assigned(room - 1)
	case 3:
		first = g.counted(room - 1)
	}
	asked := g.unless(room-1, g.expression)
	switch g.pick(4) {
	case 1:
		post = g.assigned(room - 1)
	case 2:
		post = g.counted(room - 1)
	case 3:
		post = g.call(room - 1)
	}
	return node(api.SFor, "", first, asked, post, g.block(room-1))
}

func (g *grower) ranged(room int) api.Node {
	names := ""
	switch g.pick(3) {
	case 1:
		names = g.variable()
	case 2:
		names = g.name() + "," + g.variable()
	}
	return node(api.SRange, names, g.expression(room-1), g.block(room-1))
}

func node(kind int, text string, kids ...api.Node) api.Node {
	return api.Node{Kind: kind, Text: text, Kids: kids}
}
