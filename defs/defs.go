// Package defs makes types and definitions (layer 10) for tests, of how they are written in a file.
package defs

import (
	"strconv"

	"demotic/api"
	"demotic/kinds"
	"demotic/read"
)

// Of tells the definitions that are declared, in order. It panics where nothing of the kind is: a test is wrong then.
func Of(declarations string) []kinds.Def {
	var l []kinds.Def
	for _, d := range declared(declarations) {
		params := names(d.Kids[0])
		l = append(l, kinds.Def{Name: d.Text, Params: params, Type: kinds.Of(d.Kids[1], params), Alias: d.Kind == api.Alias})
	}
	return l
}

// Type tells a type, in which these names are parameters. It panics likewise.
func Type(s string, params ...string) kinds.Type {
	return kinds.Of(declared("type T " + s)[0].Kids[1], params)
}

// Types tells some.
func Types(l ...string) []kinds.Type {
	var out []kinds.Type
	for _, s := range l {
		out = append(out, Type(s))
	}
	return out
}

// declared reads declarations.
func declared(s string) []api.Node {
	n, at, e := read.File([]byte("package p;" + s))
	if e != api.OK {
		panic("no declarations, by error " + strconv.Itoa(int(e)) + " at " + strconv.Itoa(at) + ": " + s)
	}
	return n.Kids
}

// names tells those of a list.
func names(list api.Node) []string {
	var l []string
	for _, n := range list.Kids {
		l = append(l, n.Text)
	}
	return l
}
