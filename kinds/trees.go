package kinds

import (
	"slices"
	"strings"

	"demotic/api"
	"demotic/show"
	"demotic/tree"
)

// Of tells a tree's type.
func Of(n api.Node, params []string) Type {
	if !tree.Right(n, "type") && !rightStruct(n) {
		return Type{Kind: none}
	}
	return of(n, params)
}

// Tree tells a type's tree.
func Tree(t Type) api.Node {
	kids := turned(t.Args, Tree)
	lacks := slices.ContainsFunc(kids, absent)
	switch {
	case t.Kind == basic || t.Kind == parameter || t.Kind == named && !lacks:
		return node(api.TName, t.Name, kids...)
	case t.Kind == slice && len(kids) == 1 && !lacks:
		return node(api.TSlice, "", kids...)
	case t.Kind == function && len(kids) > 0:
		return functionTree(t.Args[len(kids)-1], kids)
	}
	return node(api.None, "")
}

// Text tells its text.
func Text(t Type) string {
	s, _ := show.Text(Tree(t), "type") // beside an error there is none
	return s
}

// rightStruct: is it a TStruct as layer 6 has it, which is of none of its sorts? Its names and types are right just if a named type with all of them is, which is as great.
func rightStruct(n api.Node) bool {
	var parts []api.Node
	for _, field := range n.Kids {
		if field.Kind != api.Field || len(field.Kids) != 1 {
			return false
		}
		parts = append(parts, node(api.TName, field.Text), field.Kids[0])
	}
	return n.Kind == api.TStruct && n.Text == "" && tree.Depth(n) <= api.MaxDepth &&
		tree.Right(node(api.TName, "T", parts...), "type")
}

// of is Of of a right tree; a None in it is a result.
func of(n api.Node, params []string) Type {
	in := func(kid api.Node) Type { return of(kid, params) }
	switch n.Kind {
	case api.None:
		return Type{Kind: nothing}
	case api.Param, api.Field:
		return in(n.Kids[0])
	case api.TSlice:
		return Type{Kind: slice, Args: turned(n.Kids, in)}
	case api.TFunc:
		return Type{Kind: function, Args: append(turned(n.Kids[0].Kids, in), in(n.Kids[1]))}
	case api.TStruct:
		names := turned(n.Kids, func(field api.Node) string { return field.Text })
		return Type{Kind: structure, Name: strings.Join(names, ","), Args: turned(n.Kids, in)}
	}
	return Type{Kind: meaning(n, params), Name: n.Text, Args: turned(n.Kids, in)}
}

// meaning tells the kind of a name's type.
func meaning(n api.Node, params []string) int {
	switch {
	case len(n.Kids) > 0:
		return named
	case slices.Contains(params, n.Text):
		return parameter
	case n.Text == "int" || n.Text == "string" || n.Text == "bool":
		return basic
	}
	return named
}

// functionTree is a function's tree, made of the trees of what is in it; the last one is that of its result.
func functionTree(result Type, kids []api.Node) api.Node {
	last := len(kids) - 1
	if slices.ContainsFunc(kids[:last], absent) || absent(kids[last]) && result.Kind != nothing {
		return node(api.None, "")
	}
	params := turned(kids[:last], func(kid api.Node) api.Node { return node(api.Param, "", kid) })
	return node(api.TFunc, "", node(api.List, "", params...), kids[last])
}

// absent: is it a tree that there is not?
func absent(n api.Node) bool { return n.Kind == api.None }

func node(kind int, text string, kids ...api.Node) api.Node {
	return api.Node{Kind: kind, Text: text, Kids: kids}
}
