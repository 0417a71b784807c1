// Package trees makes trees for tests: of a short way to write them, and of any bytes.
package trees

import (
	"strconv"
	"strings"

	"demotic/api"
)

// kinds are their names, in api's order.
const kinds = "None File Func Type Alias Var List TParam Param Field TName TSlice TFunc TStruct TInter Term " +
	"EInt EStr EName EUnary EBinary ECall EIndex EField ELit EFunc " +
	"SShort SAssign SInc SExpr SIf SFor SRange SReturn SBreak SContinue SBlock"

// Text writes a tree: a kind's name, its text in quotes (if it has one), and its kids in brackets, blanks between (if it has some).
func Text(n api.Node) string { return string(write(nil, n, false)) }

// Placed writes a tree likewise, but each node that is not None with @ and its byte behind its text.
func Placed(n api.Node) string { return string(write(nil, n, true)) }

func write(out []byte, n api.Node, placed bool) []byte {
	out = append(out, strings.Fields(kinds)[n.Kind]...)
	if n.Text != "" {
		out = strconv.AppendQuote(out, n.Text)
	}
	if placed && n.Kind != api.None {
		out = strconv.AppendInt(append(out, '@'), int64(n.At), 10)
	}
	for i, kid := range n.Kids {
		between := byte(' ')
		if i == 0 {
			between = '('
		}
		out = write(append(out, between), kid, placed)
	}
	if len(n.Kids) > 0 {
		out = append(out, ')')
	}
	return out
}

// Of reads what Text writes. It panics where it is nothing of the kind: a test is wrong then.
func Of(s string) api.Node {
	n, rest := of(s)
	if rest != "" {
		panic("no tree: " + rest)
	}
	return n
}

// of reads a tree, and tells the rest.
func of(s string) (n api.Node, rest string) {
	size := strings.IndexAny(s+")", "\"() ")
	n.Kind = kind(s[:size])
	s = s[size:]
	if quoted, e := strconv.QuotedPrefix(s); e == nil {
		n.Text, _ = strconv.Unquote(quoted)
		s = s[len(quoted):]
	}
	if !strings.HasPrefix(s, "(") {
		return n, s
	}
	for more := true; more; more = s[0] == ' ' {
		var kid api.Node
		kid, s = of(s[1:])
		n.Kids = append(n.Kids, kid)
	}
	return n, strings.TrimPrefix(s, ")")
}

// kind tells the number of a kind.
func kind(s string) int {
	for i, one := range strings.Fields(kinds) {
		if one == s {
			return i
		}
	}
	panic("no kind: " + s)
}
