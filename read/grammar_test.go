package read_test

import (
	"reflect"
	"slices"
	"strings"
	"sync"
	"testing"

	"demotic/api"
	"demotic/lit"
	"demotic/read"
	"demotic/rows"
	"demotic/show"
	"demotic/token"
	"demotic/tree"
	"demotic/trees"
)

// rules are the document's, with what it says beside them put into rules, too: what begins with head stands in a head, outside of brackets; var is a name that is not _.
const rules = `
file = "package" name ; { declaration ; }
lone = expr [ "\n" ]
declaration = "func" name [ params ] signature block
            | "type" name [ params ] [ "=" ] type | "type" name [ params ] ( struct | inter )
            | variable
variable = "var" name ( type [ "=" expr ] | "=" expr )
params = "[" name constraint { "," name constraint } [ "," ] "]"
constraint = inter | term { "|" term }
inter = "interface" "{" term { "|" term } [ ; ] "}"
term = [ "~" ] type
struct = "struct" "{" [ name type { ; name type } [ ; ] ] "}"
signature = "(" [ name type { "," name type } [ "," ] ] ")" [ type ]
type = name [ "[" type { "," type } [ "," ] "]" ] | "[" "]" type | "(" type ")" | functype
functype = "func" "(" [ type { "," type } [ "," ] ] ")" [ type ]
block = "{" [ statement ] { ; [ statement ] } "}"
statement = variable | simple | if | for | block | "return" [ expr ] | "break" | "continue"
simple = var ":=" expr | expr "=" expr | expr "++" | expr "--" | call
if = "if" headexpr block [ "else" ( if | block ) ]
for = "for" [ headexpr | [ headsimple ] ; [ headexpr ] ; [ headsimple ] | [ ( var | name "," var ) ":=" ] "range" headexpr ] block
headsimple = var ":=" headexpr | headexpr "=" headexpr | headexpr "++" | headexpr "--" | headcall
expr = { "-" | "!" } primary { sign { "-" | "!" } primary }
headexpr = { "-" | "!" } headprimary { sign { "-" | "!" } headprimary }
sign = "*" | "/" | "%" | "+" | "-" | "==" | "!=" | "<" | "<=" | ">" | ">=" | "&&" | "||"
primary = ( operand | named literal ) { args | "." name | index }
headprimary = operand { args | "." name | index }
call = ( operand | named literal ) { args | "." name | index } args
headcall = operand { args | "." name | index } args
args = "(" [ expr { "," expr } [ "," ] ] ")"
index = "[" part { "," part } [ "," ] "]"
part = expr | "[" "]" type | functype
named = name [ "[" namedpart { "," namedpart } [ "," ] "]" ]
namedpart = named | bracketed | "[" "]" type | functype
bracketed = "(" ( named | bracketed ) ")"
literal = "{" [ expr { "," expr } [ "," ] ] "}"
operand = number | text | name | "(" expr ")" | "func" signature block | "[" "]" type literal
`

// production is a rule without choices: numbers of symbols.
type production struct {
	left  int
	right []int
}

// grammar is what rules say: symbols with productions, and symbols without, which are tokens.
type grammar struct {
	symbols     map[string]int
	productions []production
	of          map[int][]int // the productions of a symbol
	nothing     map[int]bool  // may it be nothing?
	words       []string      // what was not read of the rules
}

func newGrammar(rules string) *grammar {
	g := &grammar{symbols: map[string]int{}, of: map[int][]int{}, nothing: map[int]bool{}}
	for _, line := range strings.Split(strings.ReplaceAll(rules, "\n            |", " |"), "\n") {
		if words := strings.Fields(line); len(words) > 0 {
			g.words = words[2:]
			g.choices(g.symbol(words[0]))
		}
	}
	for again := true; again; {
		again = false
		for _, p := range g.productions {
			if !g.nothing[p.left] && !slices.ContainsFunc(p.right, func(s int) bool { return !g.nothing[s] }) {
				g.nothing[p.left], again = true, true
			}
		}
	}
	return g
}

func (g *grammar) symbol(s string) int {
	if _, ok := g.symbols[s]; !ok {
		g.symbols[s] = len(g.symbols)
	}
	return g.symbols[s]
}

func (g *grammar) add(left int, right []int) {
	g.of[left] = append(g.of[left], len(g.productions))
	g.productions = append(g.productions, production{left, right})
}

// choices reads choices till a closing bracket, or the end.
func (g *grammar) choices(left int) {
	var row []int
	for len(g.words) > 0 {
		word := g.words[0]
		g.words = g.words[1:]
		switch word {
		case "|":
			g.add(left, row)
			row = nil
		case "(", "[", "{":
			inner := g.symbol("group " + strings.Repeat("'", len(g.symbols)))
			g.choices(inner)
			if word != "(" {
				g.add(inner, nil)
			}
			row = append(row, inner)
			if word == "{" { // as often as may be: the group, behind the group
				again := g.symbol("group " + strings.Repeat("'", len(g.symbols)))
				row[len(row)-1] = again
				g.add(again, nil)
				g.add(again, []int{again, inner})
			}
		case ")", "]", "}":
			g.add(left, row)
			return
		default:
			row = append(row, g.symbol(word))
		}
	}
	g.add(left, row)
}

// item is a production that was begun at a place, and how far it came.
type item struct{ production, dot, from int }

// chart tells of each place which items are there.
type chart struct {
	*grammar
	start int
	sets  [][]item
}

func (g *grammar) begin(start string) chart {
	c := chart{grammar: g, start: g.symbol(start)}
	return c.with(c.expected(c.start))
}

// expected begins each production of a symbol here.
func (c chart) expected(symbol int) []item {
	var l []item
	for _, p := range c.of[symbol] {
		l = append(l, item{p, 0, len(c.sets)})
	}
	return l
}

// with tells the chart with one more place, where these items are, and what follows from them.
func (c chart) with(l []item) chart {
	here := len(c.sets)
	known := map[item]bool{}
	var set []item
	add := func(l ...item) {
		for _, x := range l {
			if !known[x] {
				known[x] = true
				set = append(set, x)
			}
		}
	}
	add(l...)
	for i := 0; i < len(set); i++ {
		x := set[i]
		p := c.productions[x.production]
		if x.dot == len(p.right) {
			from := set
			if x.from < here {
				from = c.sets[x.from]
			}
			for _, y := range from {
				if q := c.productions[y.production]; y.dot < len(q.right) && q.right[y.dot] == p.left {
					add(item{y.production, y.dot + 1, y.from})
				}
			}
			continue
		}
		add(c.expected(p.right[x.dot])...)
		if c.nothing[p.right[x.dot]] {
			add(item{x.production, x.dot + 1, x.from})
		}
	}
	c.sets = append(slices.Clip(c.sets), set)
	return c
}

// names tells as which of the grammar's symbols a token may stand.
func names(t token.Token) []string {
	switch t.Kind {
	case 1:
		if t.Text == "_" {
			return []string{"name"}
		}
		return []string{"name", "var"}
	case 4:
		return []string{"number"}
	case 5:
		return []string{"text"}
	}
	if t.Text == "\n" {
		return []string{";", `"\n"`}
	}
	if t.Text == ";" {
		return []string{";"}
	}
	return []string{`"` + t.Text + `"`}
}

// next tells the chart behind a token, and whether it goes on with it.
func (c chart) next(t token.Token) (chart, bool) {
	var l []item
	for _, s := range names(t) {
		symbol, ok := c.symbols[s]
		for _, x := range c.sets[len(c.sets)-1] {
			if p := c.productions[x.production]; ok && x.dot < len(p.right) && p.right[x.dot] == symbol {
				l = append(l, item{x.production, x.dot + 1, x.from})
			}
		}
	}
	return c.with(l), len(l) > 0
}

// ends: may it end here?
func (c chart) ends() bool {
	return slices.ContainsFunc(c.sets[len(c.sets)-1], func(x item) bool {
		p := c.productions[x.production]
		return p.left == c.start && x.from == 0 && x.dot == len(p.right)
	})
}

// run tells how it goes with more tokens, of a text of so many bytes.
func (c chart) run(l []token.Token, size int) (at int, e api.Errno) {
	for _, t := range l {
		var ok bool
		if c, ok = c.next(t); !ok {
			return t.At, api.ErrForm
		}
	}
	if !c.ends() {
		return size, api.ErrForm
	}
	return 0, api.OK
}

// wanted tells what is to be told of a text that begins with the tokens of a chart, but for ErrDeep.
func (c chart) wanted(s string) (at int, e api.Errno) {
	l, at, e := token.Scan([]byte(s))
	if e != api.OK {
		return at, e
	}
	if i := slices.IndexFunc(l, unknown); i >= 0 {
		return l[i].At, api.ErrOther
	}
	if i := slices.IndexFunc(l, meaningless); i >= 0 {
		return l[i].At, api.ErrLit
	}
	return c.run(l[len(c.sets)-1:], len(s))
}

const outside = " <<= >>= &^= ... += -= *= /= %= &= |= ^= << >> &^ <- & ^ : import "

// unknown: has no rule this token?
func unknown(t token.Token) bool {
	return t.Kind == 3 || t.Kind != 5 && strings.Contains(outside, " "+t.Text+" ")
}

// meaningless: is it a number or a text that means nothing, or too long a text?
func meaningless(t token.Token) bool {
	switch t.Kind {
	case 4:
		_, e := lit.Number(t.Text)
		return e != api.OK
	case 5:
		text, e := lit.Text(t.Text)
		return e != api.OK || len(text) > 1000
	}
	return false
}

// ruled is the document's grammar; strict is one without what its loops let in, and layer 6 does not: a call first, a declaration last.
var (
	ruled  = sync.OnceValue(func() *grammar { return newGrammar(rules) })
	strict = sync.OnceValue(func() *grammar {
		loop := strings.Replace(rules, "[ headsimple ] ; [ headexpr ] ; [ headsimple ]", "[ first ] ; [ headexpr ] ; [ last ]", 1)
		return newGrammar(loop + `
first = var ":=" headexpr | headexpr "=" headexpr | headexpr "++" | headexpr "--"
last = headexpr "=" headexpr | headexpr "++" | headexpr "--" | headcall
`)
	})
)

// holds checks P8.1 and P8.2 of a file's text that begins with the tokens of a chart, and is too small to be too deep.
func holds(t *testing.T, c chart, s string) {
	t.Helper()
	at, e := c.wanted(s)
	if e == api.OK {
		if _, f := strict().begin("file").wanted(s); f != api.OK {
			e = api.ErrDeep
		}
	}
	n, gotAt, got := read.File([]byte(s))
	if gotAt != at || got != e {
		t.Fatalf("P8.1: %q: %d at %d, not %d at %d", s, got, gotAt, e, at)
	}
	if e != api.OK {
		if !reflect.DeepEqual(n, api.Node{}) {
			t.Fatalf("R2: %q: %s", s, trees.Text(n))
		}
		return
	}
	b, f := show.File(n)
	if again, _, g := read.File(b); f != api.OK || g != api.OK || !tree.Right(n, "file") || !tree.Same(again, n) {
		t.Fatalf("P8.2: %q: %q, %d, %d", s, b, f, g)
	}
}

// explore goes through all rows of the parts that go on by the rules, with at most so many parts, and each other part behind them.
func explore(t *testing.T, here chart, s, after string, parts []string, room int) (count int) {
	holds(t, here, s)
	holds(t, here, s+after)
	for _, part := range parts {
		l, _, _ := token.Scan([]byte(part + " "))
		next, ok := here.next(l[0])
		switch longer := s + " " + part; {
		case !ok:
			holds(t, here, longer)
			holds(t, here, longer+after)
		case room > 0:
			count += 1 + explore(t, next, longer, after, parts, room-1)
		}
	}
	return count
}

// P8.1: all short texts of some words, behind some beginnings.
func TestShort(t *testing.T) {
	for _, row := range []struct {
		before, after, parts string
		room                 int
	}{
		{"", "", `package p ; func type var import a = ( { [ 1 "s"`, 5},
		{"package p ;", "", "func type var a _ = ( ) { } [ ] ; struct interface 1", 6},
		{"package p ; func", "} ;", "f _ [ ] ( ) { } , ; int func interface ~ | :=", 6},
		{"package p ; type T", "} ;", "a [ ] ( ) { } , ; = struct interface func ~ |", 5},
		{"package p ; type T [ P", "] int ;", "a [ ] ( ) { } , ; interface func ~ |", 5},
		{"package p ; type T struct {", "} ;", "a b [ ] ( ) { } ; , func", 5},
		{"package p ; type T interface {", "} ;", "a [ ] ( ) { } ; , func ~ |", 5},
		{"package p ; var x", ";", "a [ ] ( ) , ; = func { }", 6},
		{"package p ; var x =", ";", "a [ ] ( ) { } , ; func . - ! + 1", 4},
		{"package p ; var x = a [", "] ;", "a [ ] ( ) { } , ; func . -", 5},
		{"package p ; var x = a [ func (", "] ;", "a [ ] ( ) { } , ; func", 6},
		{"package p ; var x = a [ func ( )", "] ;", "a [ ] ( ) { } , return", 6},
		{"package p ; var x = func (", ";", "a [ ] ( ) { } , func", 6},
		{"package p ; func f ( ) {", "} ;", "a _ ( ) { } [ ] ; := = ++ return", 4},
		{"package p ; func f ( ) {", "} ;", "a if else for range break continue var { } ; 1", 5},
		{"package p ; func f ( ) { for", "{ } } ;", "a _ ( ) { } , ; := = ++ range [ ]", 5},
		{"package p ; func f ( ) { for ; ;", "{ } } ;", "a _ ( ) { } , ; := = -- range", 5},
		{"package p ; func f ( ) { for a :=", "{ } } ;", "a _ ( ) { } , ; range T", 5},
		{"package p ; func f ( ) { if", "{ } } ;", "a ( ) { } , ; else if [ ] func", 5},
		{"package p ; func f ( ) { a [", "] { } } ;", "b ( ) { } , [ ] func - .", 4},
		{"package p ; func f ( ) { if a [", "] { } } ;", "b ( ) { } , [ ] func", 4},
	} {
		here := ruled().begin("file")
		l, _, _ := token.Scan([]byte(row.before + " "))
		for _, x := range l {
			if x.Text != "\n" {
				here, _ = here.next(x)
			}
		}
		if count := explore(t, here, row.before, " "+row.after, strings.Fields(row.parts), row.room); count < 20 {
			t.Errorf("%s: %d only", row.before, count)
		}
	}
}

const words = "( ) [ ] { } , ; . : = := ++ -- + - * / == < && || ! ~ | a b _ T int 1 0x1f 017 08 \"s\" `s` \"\\q\" " +
	"break continue else for func if import interface package range return struct type var map << \n"

// torn makes another text of one, as bytes choose: words are left out, put in, put elsewhere, and what stands in a row is put in brackets.
func torn(s string, choice []byte) string {
	l, _, _ := token.Scan([]byte(s))
	var parts []string
	for _, x := range l {
		parts = append(parts, x.Text)
	}
	others := strings.Split(words, " ")
	for ; len(choice) > 4 && len(parts) > 1; choice = choice[5:] {
		i := (int(choice[1])<<8 + int(choice[2])) % len(parts)
		j := min(i+int(choice[3])%8, len(parts)-1)
		other := others[int(choice[4])%len(others)]
		switch choice[0] % 8 {
		case 0:
			parts = slices.Delete(parts, i, i+1)
		case 1:
			parts = slices.Insert(parts, i, other)
		case 2:
			parts[i] = other
		case 3:
			parts[i], parts[j] = parts[j], parts[i]
		default:
			parts = slices.Insert(slices.Insert(parts, j+1, ")"), i, "(")
		}
	}
	return strings.Join(parts, " ")
}

// P8.1, P8.2: texts of trees, with some changes.
func TestTorn(t *testing.T) {
	begun := ruled().begin("file")
	fine := 0
	for seed := range 4000 {
		b, _ := show.File(trees.Grow(rows.Noise(seed, 150), "file", 7+seed%30))
		s := torn(string(b), rows.Noise(seed+7777, seed%4*5))
		holds(t, begun, s)
		if _, e := begun.wanted(s); e == api.OK {
			fine++
		}
	}
	if fine < 1000 || fine > 3000 {
		t.Errorf("%d are fine", fine)
	}
}

// P8.1: an expression alone, and what may stand behind it.
func TestLone(t *testing.T) {
	begun := ruled().begin("lone")
	fine := 0
	check := func(s string) {
		at, e := begun.wanted(s)
		n, gotAt, got := read.Expr(s)
		if at != gotAt || e != got || (e == api.OK) != tree.Right(n, "expression") {
			t.Fatalf("P8.1: Expr(%q): %d at %d, not %d at %d", s, got, gotAt, e, at)
		}
		if e == api.OK {
			fine++
		}
	}
	rows.Each([]string{"a", "1", `"\n"`, "(", ")", "[", "]", "{", "}", ",", ";", "\n", "-", "+", ".", "func", " "}, 4, check)
	for seed := range 4000 {
		s, _ := show.Text(trees.Grow(rows.Noise(seed, 60), "expression", 7+seed%30), "expression")
		check(torn(s, rows.Noise(seed+7777, seed%4*5)))
	}
	if fine < 1000 {
		t.Errorf("%d are fine", fine)
	}
}
