package tree_test

import (
	"fmt"
	"regexp"
	"slices"
	"strings"
	"testing"

	"demotic/api"
	"demotic/rows"
	"demotic/tree"
)

// line is a row of the document: its sorts, a kind, which text, which kids. Of the kids' words the last one may end in * (any count) or + (one or more); between | stands what may be there instead.
type line struct {
	sorts string
	kind  int
	text  string
	kids  string
}

// document is what the document's rows say, in its order.
func document() []line {
	return []line{
		{"None", api.None, "", ""},
		{"file", api.File, "name", "declaration*"},
		{"declaration", api.Func, "name", "tparams signature SBlock"},
		{"declaration", api.Type, "name", "tparams type|TStruct|TInter"},
		{"declaration", api.Alias, "name", "tparams type"},
		{"declaration statement", api.Var, "name", "type None|expression"},
		{"declaration statement", api.Var, "name", "None expression"},
		{"tparams", api.List, "", "TParam*"},
		{"TParam", api.TParam, "name", "TName|TInter"},
		{"signature", api.TFunc, "", "named None|type"},
		{"named", api.List, "", "namedParam*"},
		{"namedParam", api.Param, "name", "type"},
		{"type TName", api.TName, "name", "type*"},
		{"type TSlice", api.TSlice, "", "type"},
		{"type TFunc", api.TFunc, "", "nameless None|type"},
		{"nameless", api.List, "", "namelessParam*"},
		{"namelessParam", api.Param, "", "type"},
		{"TStruct", api.TStruct, "", "Field*"},
		{"Field", api.Field, "name", "type"},
		{"TInter", api.TInter, "", "Term+"},
		{"Term", api.Term, " ~", "type"},
		{"expression", api.EInt, "digits", ""},
		{"expression", api.EStr, "bytes", ""},
		{"expression", api.EName, "name", ""},
		{"expression", api.EUnary, "- !", "expression"},
		{"expression", api.EBinary, "binary", "expression expression"},
		{"expression ECall", api.ECall, "", "expression+"},
		{"expression", api.EIndex, "", "expression expression|TSlice|TFunc+"},
		{"expression", api.EField, "name", "expression"},
		{"expression", api.ELit, "", "TName|TSlice expression*"},
		{"expression", api.EFunc, "", "signature SBlock"},
		{"statement SShort", api.SShort, "variable", "expression"},
		{"statement SAssign", api.SAssign, "", "expression expression"},
		{"statement SInc", api.SInc, "++ --", "expression"},
		{"statement SExpr", api.SExpr, "", "ECall"},
		{"statement SIf", api.SIf, "", "expression SBlock None|SBlock|SIf"},
		{"statement", api.SFor, "", "None|SShort|SAssign|SInc None|expression None|SAssign|SInc|SExpr SBlock"},
		{"statement", api.SRange, "ranged", "expression SBlock"},
		{"statement", api.SReturn, "", "None|expression"},
		{"statement", api.SBreak, "", ""},
		{"statement", api.SContinue, "", ""},
		{"statement SBlock", api.SBlock, "", "statement*"},
	}
}

// kinds of texts, as the document's words have them.
var (
	names    = regexp.MustCompile(`^[a-zA-Z_][a-zA-Z0-9_]{0,99}$`)
	variable = regexp.MustCompile(`^([a-zA-Z][a-zA-Z0-9_]*|_[a-zA-Z0-9_]+)$`)
	digits   = regexp.MustCompile(`^(0|[1-9][0-9]{0,199})$`)
	keywords = strings.Fields("break continue else for func if import interface package range return struct type var case chan const default defer fallthrough go goto map select switch")
	signs    = strings.Fields("+ - * / % == != < <= > >= && ||")
)

// texts are some that nodes may have.
func texts() []string {
	long := strings.Repeat("n", 100)
	l := []string{
		"", "~", "~~", "-", "!", "!!", "++", "--", "---", "&", "|", "^", "<<", "=", ":=", "+=", "<-", "&^", "===", "a", "_", "__", "_1", "_1Z", "Z9", "main", "packages", "If", "true", "int", "None",
		"a b", " a", "a ", "1a", "\u00e4", "a\u00e4", "a\n", "a\xff", "\x00", "\ufeffa", long, long + "n", long + "\u00e4",
		"0", "1", "17", "90", "01", "00", "-1", "+1", "1_0", "0x1", "1.5", " 1", "1 ", "\u0661", strings.Repeat("9", 200), strings.Repeat("9", 201), strings.Repeat("0", 200),
		"a,b", "_,b", "a,a", "_1,_2", "_,_", "a,_", "_,", "a,", ",b", ",", ",,", "a,b,c", "_,a,b", "a,b,", ",a,b", "a, b", "a ,b", "a,if", "if,a", "a,1", "1,a", "a;b", long + "," + long, long + "n,a", "a," + long + "n",
		strings.Repeat("\xff", 1000), strings.Repeat("s", 1001), strings.Repeat("\u00e4", 501), strings.Repeat("\x00", 1<<16),
	}
	return slices.Concat(l, keywords, signs)
}

// named: is it a name?
func named(text string) bool { return names.MatchString(text) && !slices.Contains(keywords, text) }

// said: does a text fit a row's word?
func said(word, text string) bool {
	switch word {
	case "name":
		return named(text)
	case "variable":
		return named(text) && variable.MatchString(text)
	case "ranged":
		l := strings.SplitN(text, ",", 2)
		return text == "" || said("variable", l[len(l)-1]) && named(l[0])
	case "digits":
		return digits.MatchString(text)
	case "bytes":
		return len(text) <= 1000
	case "binary":
		return slices.Contains(signs, text)
	}
	return slices.Contains(strings.Split(word, " "), text)
}

// judge says by the document's rows what is right.
type judge []line

// right: is it of that sort? (Depth and size are not asked.)
func (j judge) right(n api.Node, sort string) bool {
	for _, l := range j {
		if l.kind == n.Kind && slices.Contains(strings.Fields(l.sorts), sort) && said(l.text, n.Text) && j.kids(n.Kids, strings.Fields(l.kids)) {
			return true
		}
	}
	return false
}

// kids: are they as a row's words have them?
func (j judge) kids(l []api.Node, want []string) bool {
	if len(want) == 0 {
		return len(l) == 0
	}
	word := strings.TrimRight(want[0], "*+")
	if sign := strings.TrimPrefix(want[0], word); sign != "" {
		for _, n := range l {
			if !j.either(n, word) {
				return false
			}
		}
		return sign == "*" || len(l) > 0
	}
	return len(l) > 0 && j.either(l[0], word) && j.kids(l[1:], want[1:])
}

func (j judge) either(n api.Node, words string) bool {
	return slices.ContainsFunc(strings.Split(words, "|"), func(sort string) bool { return j.right(n, sort) })
}

// holds checks P6.1 of a node, for every sort; of one that has a row but no sort also where it may stand.
func (j judge) holds(t *testing.T, n api.Node) {
	t.Helper()
	for _, x := range append(around(n), n) {
		for _, sort := range []string{"file", "declaration", "type", "expression", "statement", "signature"} {
			if want := j.right(x, sort); tree.Right(x, sort) != want {
				t.Fatalf("P6.1: Right(%s, %s): not %t", short(x), sort, want)
			}
		}
	}
}

// around tells declarations and types in which a node without a sort of its own may stand.
func around(n api.Node) []api.Node {
	none, word := node(api.None, ""), node(api.TName, "int")
	declared := func(n api.Node) []api.Node { return []api.Node{node(api.Type, "T", list(), n)} }
	switch n.Kind {
	case api.TStruct, api.TInter:
		return declared(n)
	case api.Field:
		return declared(node(api.TStruct, "", n))
	case api.Term:
		return declared(node(api.TInter, "", n))
	case api.TParam:
		return []api.Node{node(api.Alias, "A", list(n), word)}
	case api.Param:
		return []api.Node{node(api.TFunc, "", list(n), none)}
	case api.List:
		return []api.Node{node(api.TFunc, "", n, none), node(api.Alias, "A", n, word)}
	case api.None:
		return []api.Node{node(api.SReturn, "", n), node(api.Var, "x", n, none), node(api.TFunc, "", list(), n)}
	}
	return nil
}

// short tells the beginning of what a test is of.
func short(x any) string {
	s := fmt.Sprint(x)
	return s[:min(len(s), 200)]
}

func node(kind int, text string, kids ...api.Node) api.Node {
	return api.Node{Kind: kind, Text: text, Kids: kids}
}

func list(kids ...api.Node) api.Node { return node(api.List, "", kids...) }

// samples are right nodes, one or more of each row.
func samples() []api.Node {
	none, block := node(api.None, ""), node(api.SBlock, "")
	name, word := node(api.EName, "x"), node(api.TName, "int")
	call := node(api.ECall, "", name)
	signature := node(api.TFunc, "", list(node(api.Param, "a", word), node(api.Param, "_", word)), word)
	inter := node(api.TInter, "", node(api.Term, "", word), node(api.Term, "~", word))
	set, inc := node(api.SAssign, "", name, name), node(api.SInc, "++", name)
	short, expr := node(api.SShort, "x", name), node(api.SExpr, "", call)
	sif := node(api.SIf, "", name, block, none)
	params := list(node(api.TParam, "P", word), node(api.TParam, "_", inter))
	return []api.Node{
		none, block, name, word, call, signature, inter, set, inc, short, expr, sif, params, list(),
		node(api.TParam, "P", word), node(api.TParam, "P", inter), node(api.Param, "a", word), node(api.Param, "", word), list(node(api.Param, "a", word)), list(node(api.Param, "", word)),
		node(api.TName, "L", word, word), node(api.TSlice, "", word), node(api.TFunc, "", list(node(api.Param, "", word)), none), node(api.TFunc, "", list(), word), node(api.TFunc, "", list(node(api.Param, "a", word)), none),
		node(api.TStruct, ""), node(api.Field, "f", word), node(api.TStruct, "", node(api.Field, "f", word)), node(api.Term, "", word), node(api.Term, "~", word),
		node(api.EInt, "1"), node(api.EStr, "a b"), node(api.EUnary, "!", name), node(api.EBinary, "||", name, call), node(api.EIndex, "", name, call), node(api.EIndex, "", name, node(api.TSlice, "", word), name), node(api.EField, "f", name),
		node(api.ELit, "", word), node(api.ELit, "", node(api.TSlice, "", word), name, name), node(api.EFunc, "", signature, block),
		node(api.SFor, "", none, none, none, block), node(api.SFor, "", short, name, inc, block), node(api.SRange, "", name, block), node(api.SRange, "x,y", name, block),
		node(api.SReturn, "", none), node(api.SReturn, "", name), node(api.SBreak, ""), node(api.SContinue, ""), node(api.SBlock, "", sif, inc), node(api.SIf, "", name, block, sif),
		node(api.Var, "x", word, none), node(api.Var, "x", none, name), node(api.Var, "x", word, name),
		node(api.Func, "f", list(), signature, block), node(api.Type, "T", params, word), node(api.Type, "T", list(), node(api.TStruct, "")), node(api.Type, "T", list(), inter), node(api.Alias, "A", params, word),
		node(api.File, "main"), node(api.File, "main", node(api.Var, "x", word, none), node(api.Alias, "A", list(), word)),
	}
}

// P6.1: each row has a sample, right as it says.
func TestSamples(t *testing.T) {
	j := judge(document())
	l := samples()
	for _, row := range j {
		for _, sort := range strings.Fields(row.sorts) {
			if !slices.ContainsFunc(l, func(n api.Node) bool { return n.Kind == row.kind && j.right(n, sort) }) {
				t.Errorf("no sample of kind %d, %s", row.kind, sort)
			}
		}
	}
	for _, n := range l {
		j.holds(t, n)
	}
}

// P6.1: each kind with each text.
func TestRowTexts(t *testing.T) {
	j := judge(document())
	for _, n := range samples() {
		for _, text := range texts() {
			n.Text = text
			j.holds(t, n)
		}
	}
}

// P6.1: each kind in the place of each other one.
func TestRowKinds(t *testing.T) {
	j := judge(document())
	for _, n := range samples() {
		for kind := -2; kind < api.Kinds+3; kind++ {
			n.Kind = kind
			j.holds(t, n)
		}
	}
}

// P6.1: each sample with other kids: one of them another one, one more, one less, in another order.
func TestRowKids(t *testing.T) {
	j := judge(document())
	l := samples()
	for _, n := range l {
		kids := n.Kids
		for i := range len(kids) + 1 {
			for _, kid := range l {
				n.Kids = slices.Insert(slices.Clone(kids), i, kid)
				j.holds(t, n)
				if i < len(kids) {
					n.Kids = slices.Clone(kids)
					n.Kids[i] = kid
					j.holds(t, n)
				}
			}
			if i < len(kids) {
				n.Kids = slices.Delete(slices.Clone(kids), i, i+1)
				j.holds(t, n)
			}
		}
		n.Kids = slices.Clone(kids)
		slices.Reverse(n.Kids)
		j.holds(t, n)
	}
}

// P6.1: each kind with no kids, one, and two.
func TestRowCounts(t *testing.T) {
	j := judge(document())
	l := samples()
	for _, n := range l[:len(l)-2] {
		n.Kids = nil
		j.holds(t, n)
		for _, x := range l {
			n.Kids = []api.Node{x}
			j.holds(t, n)
		}
		for _, x := range l[:14] {
			for _, y := range l[:14] {
				n.Kids = []api.Node{x, y}
				j.holds(t, n)
			}
		}
	}
}

// P6.1: what is wrong deep within is wrong.
func TestRowsWithin(t *testing.T) {
	wrongs := []api.Node{{}, node(api.EInt, "01"), node(api.TName, "if"), node(api.SShort, "_", node(api.EInt, "1")), node(api.Term, "!"), node(api.Kinds, ""), node(-1, "")}
	for _, n := range samples() {
		for _, wrong := range wrongs {
			each(n, func(at []int) {
				bad := put(n, at, wrong)
				judge(document()).holds(t, bad)
			})
		}
	}
}

// each tells the ways to all nodes in n: which kid to take at each step.
func each(n api.Node, do func(at []int)) {
	do(nil)
	for i, kid := range n.Kids {
		each(kid, func(at []int) { do(append([]int{i}, at...)) })
	}
}

// put tells n with another node at the end of a way.
func put(n api.Node, at []int, by api.Node) api.Node {
	if len(at) == 0 {
		return by
	}
	n.Kids = slices.Clone(n.Kids)
	n.Kids[at[0]] = put(n.Kids[at[0]], at[1:], by)
	return n
}

// P6.1: there are six sorts.
func TestSorts(t *testing.T) {
	for _, n := range samples() {
		rows.Each([]string{"file", "expression", "type", " ", "s", "None", "File", "List", "TParam", "block", "SBlock", "Param"}, 2, func(sort string) {
			switch sort {
			case "file", "expression", "type":
				return
			}
			if tree.Right(n, sort) {
				t.Fatalf("P6.1: Right(%v, %q)", n, sort)
			}
		})
	}
}
