package read_test

import (
	"go/ast"
	"go/parser"
	gotoken "go/token"
	"strconv"
	"testing"

	"demotic/api"
	"demotic/lit"
	"demotic/read"
	"demotic/rows"
	"demotic/trees"
)

// maker makes our trees of Go's own ones. What has another meaning to Go is thrown: type T[P (Q)] R is an array there, 0.i a number.
type maker struct{ base int }

type another struct{}

// asGo tells the tree that Go's own parser makes of a text, if it makes one.
func asGo(s string) (n api.Node, ok bool) {
	set := gotoken.NewFileSet()
	f, e := parser.ParseFile(set, "", s, parser.SkipObjectResolution)
	if e != nil {
		return n, false
	}
	defer func() {
		if thrown := recover(); thrown != nil {
			n, ok = api.Node{}, false
			if _, known := thrown.(another); !known {
				panic(thrown)
			}
		}
	}()
	m := maker{set.File(f.Package).Base()}
	n = m.node(api.File, f.Name.Name, f.Package)
	for _, d := range f.Decls {
		n.Kids = append(n.Kids, m.declaration(d))
	}
	return n, true
}

func (m maker) node(kind int, text string, pos gotoken.Pos, kids ...api.Node) api.Node {
	return api.Node{Kind: kind, Text: text, Kids: kids, At: int(pos) - m.base}
}

func (m maker) declaration(d ast.Decl) api.Node {
	if f, ok := d.(*ast.FuncDecl); ok {
		return m.node(api.Func, f.Name.Name, f.Pos(), m.typeParams(f.Type.TypeParams), m.signature(f.Type), m.block(f.Body))
	}
	g := d.(*ast.GenDecl)
	if v, ok := g.Specs[0].(*ast.ValueSpec); ok {
		n := m.node(api.Var, v.Names[0].Name, g.Pos(), m.typ(v.Type), api.Node{})
		if len(v.Values) > 0 {
			n.Kids[1] = m.expr(v.Values[0])
		}
		return n
	}
	s := g.Specs[0].(*ast.TypeSpec)
	n := m.node(api.Type, s.Name.Name, g.Pos(), m.typeParams(s.TypeParams), m.typ(s.Type))
	if s.Assign != gotoken.NoPos {
		n.Kind = api.Alias
	}
	return n
}

func (m maker) typeParams(l *ast.FieldList) api.Node {
	if l == nil {
		return api.Node{Kind: api.List}
	}
	n := m.node(api.List, "", l.Opening)
	for _, f := range l.List {
		n.Kids = append(n.Kids, m.node(api.TParam, f.Names[0].Name, f.Pos(), m.constraint(f.Type)))
	}
	return n
}

func (m maker) constraint(x ast.Expr) api.Node {
	if n := m.union(x); len(n.Kids) > 1 || n.Kids[0].Text != "" || n.Kids[0].Kids[0].Kind != api.TName {
		if ast.Unparen(x) == x {
			if i, ok := x.(*ast.InterfaceType); ok {
				return m.typ(i)
			}
		}
		return n
	}
	return m.typ(x)
}

// union makes a TInter of terms.
func (m maker) union(x ast.Expr) api.Node {
	n := m.node(api.TInter, "", x.Pos())
	var add func(x ast.Expr)
	add = func(x ast.Expr) {
		switch y := x.(type) {
		case *ast.BinaryExpr:
			add(y.X)
			add(y.Y)
		case *ast.UnaryExpr:
			n.Kids = append(n.Kids, m.node(api.Term, "~", y.Pos(), m.typ(y.X)))
		default:
			n.Kids = append(n.Kids, m.node(api.Term, "", y.Pos(), m.typ(y)))
		}
	}
	add(x)
	return n
}

func (m maker) signature(f *ast.FuncType) api.Node {
	params := m.node(api.List, "", f.Params.Opening)
	for _, p := range f.Params.List {
		n := m.node(api.Param, "", p.Pos(), m.typ(p.Type))
		if len(p.Names) > 0 {
			n.Text = p.Names[0].Name
		}
		params.Kids = append(params.Kids, n)
	}
	n := m.node(api.TFunc, "", f.Params.Opening, params, api.Node{})
	if f.Results != nil {
		n.Kids[1] = m.typ(f.Results.List[0].Type)
	}
	return n
}

func (m maker) typ(x ast.Expr) api.Node {
	switch y := x.(type) {
	case nil:
		return api.Node{}
	case *ast.ParenExpr:
		return m.typ(y.X)
	case *ast.Ident:
		return m.node(api.TName, y.Name, y.Pos())
	case *ast.IndexExpr:
		return m.node(api.TName, y.X.(*ast.Ident).Name, y.Pos(), m.typ(y.Index))
	case *ast.IndexListExpr:
		n := m.node(api.TName, y.X.(*ast.Ident).Name, y.Pos())
		for _, z := range y.Indices {
			n.Kids = append(n.Kids, m.typ(z))
		}
		return n
	case *ast.ArrayType:
		if y.Len != nil {
			panic(another{})
		}
		return m.node(api.TSlice, "", y.Pos(), m.typ(y.Elt))
	case *ast.FuncType:
		n := m.signature(y)
		n.At = int(y.Func) - m.base
		return n
	case *ast.StructType:
		n := m.node(api.TStruct, "", y.Pos())
		for _, f := range y.Fields.List {
			n.Kids = append(n.Kids, m.node(api.Field, f.Names[0].Name, f.Pos(), m.typ(f.Type)))
		}
		return n
	case *ast.InterfaceType:
		n := m.union(y.Methods.List[0].Type)
		n.At = int(y.Pos()) - m.base
		return n
	}
	panic(x)
}

// over makes a node that begins where its first kid begins.
func over(kind int, text string, kids ...api.Node) api.Node {
	return api.Node{Kind: kind, Text: text, Kids: kids, At: kids[0].At}
}

func (m maker) exprs(l []ast.Expr) []api.Node {
	var out []api.Node
	for _, x := range l {
		out = append(out, m.expr(x))
	}
	return out
}

func (m maker) expr(x ast.Expr) api.Node {
	switch y := x.(type) {
	case *ast.ParenExpr:
		return m.expr(y.X)
	case *ast.Ident:
		return m.node(api.EName, y.Name, y.Pos())
	case *ast.BasicLit:
		switch y.Kind {
		case gotoken.INT:
			s, _ := lit.Number(y.Value)
			return m.node(api.EInt, s, y.Pos())
		case gotoken.STRING:
			s, _ := strconv.Unquote(y.Value)
			return m.node(api.EStr, s, y.Pos())
		}
		panic(another{})
	case *ast.UnaryExpr:
		return m.node(api.EUnary, y.Op.String(), y.Pos(), m.expr(y.X))
	case *ast.BinaryExpr:
		return over(api.EBinary, y.Op.String(), m.expr(y.X), m.expr(y.Y))
	case *ast.CallExpr:
		return over(api.ECall, "", append(m.exprs([]ast.Expr{y.Fun}), m.exprs(y.Args)...)...)
	case *ast.IndexExpr:
		return over(api.EIndex, "", m.expr(y.X), m.expr(y.Index))
	case *ast.IndexListExpr:
		return over(api.EIndex, "", append(m.exprs([]ast.Expr{y.X}), m.exprs(y.Indices)...)...)
	case *ast.SelectorExpr:
		return over(api.EField, y.Sel.Name, m.expr(y.X))
	case *ast.CompositeLit:
		return over(api.ELit, "", append([]api.Node{m.typ(y.Type)}, m.exprs(y.Elts)...)...)
	case *ast.FuncLit:
		return m.node(api.EFunc, "", y.Pos(), m.signature(y.Type), m.block(y.Body))
	}
	return m.typ(x)
}

func (m maker) block(b *ast.BlockStmt) api.Node {
	n := m.node(api.SBlock, "", b.Pos())
	for _, s := range b.List {
		if _, ok := s.(*ast.EmptyStmt); !ok {
			n.Kids = append(n.Kids, m.statement(s))
		}
	}
	return n
}

func (m maker) statement(s ast.Stmt) api.Node {
	switch y := s.(type) {
	case nil:
		return api.Node{}
	case *ast.DeclStmt:
		return m.declaration(y.Decl)
	case *ast.AssignStmt:
		if y.Tok == gotoken.DEFINE {
			return m.node(api.SShort, y.Lhs[0].(*ast.Ident).Name, y.Pos(), m.expr(y.Rhs[0]))
		}
		return m.node(api.SAssign, "", y.Pos(), m.expr(y.Lhs[0]), m.expr(y.Rhs[0]))
	case *ast.IncDecStmt:
		return m.node(api.SInc, y.Tok.String(), y.Pos(), m.expr(y.X))
	case *ast.ExprStmt:
		return m.node(api.SExpr, "", y.Pos(), m.expr(y.X))
	case *ast.IfStmt:
		return m.node(api.SIf, "", y.Pos(), m.expr(y.Cond), m.block(y.Body), m.statement(y.Else))
	case *ast.ForStmt:
		n := m.node(api.SFor, "", y.Pos(), m.statement(y.Init), api.Node{}, m.statement(y.Post), m.block(y.Body))
		if y.Cond != nil {
			n.Kids[1] = m.expr(y.Cond)
		}
		return n
	case *ast.RangeStmt:
		names := ""
		if y.Key != nil {
			names = y.Key.(*ast.Ident).Name
		}
		if y.Value != nil {
			names += "," + y.Value.(*ast.Ident).Name
		}
		return m.node(api.SRange, names, y.Pos(), m.expr(y.X), m.block(y.Body))
	case *ast.ReturnStmt:
		if len(y.Results) == 0 {
			return m.node(api.SReturn, "", y.Pos(), api.Node{})
		}
		return m.node(api.SReturn, "", y.Pos(), m.expr(y.Results[0]))
	case *ast.BranchStmt:
		if y.Tok == gotoken.BREAK {
			return m.node(api.SBreak, "", y.Pos())
		}
		return m.node(api.SContinue, "", y.Pos())
	}
	return m.block(s.(*ast.BlockStmt))
}

// likeGo checks that a file's text that both read is the same tree to both; false, if one does not read it.
func likeGo(t *testing.T, s string) bool {
	t.Helper()
	n, _, e := read.File([]byte(s))
	if e != api.OK {
		return false
	}
	want, ok := asGo(s)
	if ok && trees.Placed(n) != trees.Placed(want) {
		t.Fatalf("P8.1: %q: %s, not %s", s, trees.Placed(n), trees.Placed(want))
	}
	return ok
}

// P7.1, P8.1: what is told, and what is read, is to Go what it is here, and begins where it does there. (Go has other numbers, and takes what stands behind a comma in [ ] for types.)
func TestLikeGo(t *testing.T) {
	same, others := 0, 0
	for seed := range 3000 {
		n := trees.Grow(rows.Noise(seed, 150), "file", 7+seed%30)
		n.Text = "p" // to Go _ is none
		b := shown(t, n)
		if want, ok := asGo(string(b)); ok {
			same++
			if trees.Text(want) != trees.Text(n) {
				t.Fatalf("P7.1: %s: %s, not %s", b, trees.Text(want), trees.Text(n))
			}
			likeGo(t, string(b))
		}
		for change := range 4 {
			if likeGo(t, torn(string(b), rows.Noise(seed*4+change, 5))) {
				others++
			}
		}
	}
	if same < 2000 || others < 1000 {
		t.Errorf("only %d and %d", same, others)
	}
}
