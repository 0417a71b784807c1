package tree

import (
	"maps"
	"slices"
	"strings"

	"demotic/api"
	"demotic/lit"
	"demotic/token"
)

const (
	maxName = 100  // bytes
	maxText = 1000 // bytes of an EStr
)

// shape: may a node stand where it is asked for?
type shape func(n api.Node) bool

// table tells of each kind what its row asks. A TFunc is a type here; a List and a Param have none, for what they are hangs on where they stand.
type table map[int]shape

// sorts tells of each sort what it asks.
func sorts() map[string]shape {
	t := make(table, api.Kinds)
	t[api.None] = just(empty)
	maps.Copy(t, t.declarations())
	maps.Copy(t, t.types())
	maps.Copy(t, t.expressions())
	maps.Copy(t, t.statements())
	return map[string]shape{
		"file":        t.of(api.File),
		"declaration": t.declaration(),
		"type":        t.typ(),
		"expression":  t.expression(),
		"statement":   t.statement(),
		"signature":   t.signature(),
	}
}

func (t table) declarations() table {
	params := list(t.of(api.TParam))
	typ, block, expression := t.typ(), t.of(api.SBlock), t.expression()
	return table{
		api.File:   more(name, t.declaration()),
		api.Func:   just(name, params, t.signature(), block),
		api.Type:   just(name, params, either(typ, t.of(api.TStruct, api.TInter))),
		api.Alias:  just(name, params, typ),
		api.Var:    either(just(name, typ, t.orNone(expression)), just(name, t.of(api.None), expression)),
		api.TParam: just(name, t.of(api.TName, api.TInter)),
	}
}

func (t table) types() table {
	typ, term := t.typ(), t.of(api.Term)
	return table{
		api.TName:   more(name, typ),
		api.TSlice:  just(empty, typ),
		api.TFunc:   just(empty, list(t.param(empty)), t.orNone(typ)),
		api.TStruct: more(empty, t.of(api.Field)),
		api.Field:   just(name, typ),
		api.TInter:  more(empty, term, term),
		api.Term:    just(words("", "~"), typ),
	}
}

func (t table) expressions() table {
	expression := t.expression()
	part := either(expression, t.of(api.TSlice, api.TFunc))
	signs := words("+", "-", "*", "/", "%", "==", "!=", "<", "<=", ">", ">=", "&&", "||")
	return table{
		api.EInt:    just(lit.Plain),
		api.EStr:    just(func(s string) bool { return len(s) <= maxText }),
		api.EName:   just(name),
		api.EUnary:  just(words("-", "!"), expression),
		api.EBinary: just(signs, expression, expression),
		api.ECall:   more(empty, expression, expression),
		api.EIndex:  more(empty, expression, part, part),
		api.EField:  just(name, expression),
		api.ELit:    more(empty, t.of(api.TName, api.TSlice), expression),
		api.EFunc:   just(empty, t.signature(), t.of(api.SBlock)),
	}
}

func (t table) statements() table {
	expression, block := t.expression(), t.of(api.SBlock)
	first := t.of(api.None, api.SShort, api.SAssign, api.SInc)
	post := t.of(api.None, api.SAssign, api.SInc, api.SExpr)
	return table{
		api.SShort:    just(variable, expression),
		api.SAssign:   just(empty, expression, expression),
		api.SInc:      just(words("++", "--"), expression),
		api.SExpr:     just(empty, t.of(api.ECall)),
		api.SIf:       just(empty, expression, block, t.of(api.None, api.SBlock, api.SIf)),
		api.SFor:      just(empty, first, t.orNone(expression), post, block),
		api.SRange:    just(ranged, expression, block),
		api.SReturn:   just(empty, t.orNone(expression)),
		api.SBreak:    just(empty),
		api.SContinue: just(empty),
		api.SBlock:    more(empty, t.statement()),
	}
}

func (t table) declaration() shape { return t.of(api.Func, api.Type, api.Alias, api.Var) }

func (t table) typ() shape { return t.of(api.TName, api.TSlice, api.TFunc) }

func (t table) expression() shape {
	return t.of(api.EInt, api.EStr, api.EName, api.EUnary, api.EBinary, api.ECall, api.EIndex, api.EField, api.ELit, api.EFunc)
}

func (t table) statement() shape {
	return t.of(api.Var, api.SShort, api.SAssign, api.SInc, api.SExpr, api.SIf, api.SFor, api.SRange,
		api.SReturn, api.SBreak, api.SContinue, api.SBlock)
}

func (t table) signature() shape {
	return kind(api.TFunc, just(empty, list(t.param(name)), t.orNone(t.typ())))
}

func (t table) param(text func(string) bool) shape { return kind(api.Param, just(text, t.typ())) }

func (t table) orNone(s shape) shape { return either(t.of(api.None), s) }

// of asks for a node of one of some kinds, that is as its row says. The row is looked for when a node is there: rows name one another.
func (t table) of(kinds ...int) shape {
	return func(n api.Node) bool { return slices.Contains(kinds, n.Kind) && t[n.Kind](n) }
}

// either asks for one of some shapes.
func either(shapes ...shape) shape {
	return func(n api.Node) bool {
		return slices.ContainsFunc(shapes, func(s shape) bool { return s(n) })
	}
}

// kind asks for a kind, ahead of what else is asked.
func kind(kind int, s shape) shape {
	return func(n api.Node) bool { return n.Kind == kind && s(n) }
}

// list asks for a List of any count of one shape.
func list(item shape) shape { return kind(api.List, more(empty, item)) }

// just asks for a text, and for just these kids.
func just(text func(string) bool, kids ...shape) shape {
	return func(n api.Node) bool {
		return text(n.Text) && slices.EqualFunc(n.Kids, kids, func(kid api.Node, s shape) bool { return s(kid) })
	}
}

// more asks for a text, and for these kids, the last one as often as may be, and it may be left out.
func more(text func(string) bool, kids ...shape) shape {
	last := len(kids) - 1
	return func(n api.Node) bool {
		if !text(n.Text) || len(n.Kids) < last {
			return false
		}
		for i, kid := range n.Kids {
			if !kids[min(i, last)](kid) {
				return false
			}
		}
		return true
	}
}

func empty(s string) bool { return s == "" }

func name(s string) bool { return len(s) <= maxName && token.Name(s) }

// variable: may it be declared in a block where _ can't be?
func variable(s string) bool { return s != "_" && name(s) }

// ranged: may it be what an SRange declares?
func ranged(s string) bool {
	first, second, two := strings.Cut(s, ",")
	if two {
		return name(first) && variable(second)
	}
	return s == "" || variable(s)
}

// words asks for one of some texts.
func words(l ...string) func(string) bool {
	return func(s string) bool { return slices.Contains(l, s) }
}
