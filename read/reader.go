package read

import (
	"demotic/api"
	"demotic/lit"
	"demotic/token"
)

// The kinds of tokens, as layer 2 counts them.
const (
	name = 1 + iota
	word
	other
	number
	text
	sign
)

const maxText = 1000 // bytes of an EStr

// reader is what there is to be read: the text of a number and of a text is what it means.
type reader struct {
	tokens []token.Token
	end    token.Token // comes behind the last one; it has no kind
	next   int
	head   bool // in the head of an if or a for, outside of brackets
}

// begun tells a reader of what has no wrong tokens in it.
func begun(b []byte) *reader {
	l, at, e := token.Scan(b)
	if e != api.OK {
		panic(fault{at, e})
	}
	for _, t := range l {
		if t.Kind == other || outside(t.Text) {
			panic(fault{t.At, api.ErrOther})
		}
	}
	for i, t := range l {
		l[i].Text = meaning(t)
	}
	return &reader{tokens: l, end: token.Token{At: len(b)}}
}

// outside: is it a sign or a word of the fragment that no rule has?
func outside(s string) bool {
	switch s {
	case "<<=", ">>=", "&^=", "...", "+=", "-=", "*=", "/=", "%=", "&=", "|=", "^=", "<<", ">>", "&^", "<-", "&", "^", ":", "import":
		return true
	}
	return false
}

// meaning tells what a number or a text means; another token stands for itself.
func meaning(t token.Token) string {
	s, e := t.Text, api.OK
	switch t.Kind {
	case number:
		s, e = lit.Number(s)
	case text:
		s, e = lit.Text(s)
	}
	if e != api.OK || t.Kind == text && len(s) > maxText {
		panic(fault{t.At, api.ErrLit})
	}
	return s
}

// ahead tells the token that stands so many behind the next one.
func (r *reader) ahead(n int) token.Token {
	if i := r.next + n; i < len(r.tokens) {
		return r.tokens[i]
	}
	return r.end
}

// at tells where the next token stands.
func (r *reader) at() int { return r.ahead(0).At }

// fail throws that it does not go on with the next token.
func (r *reader) fail() { panic(fault{r.at(), api.ErrForm}) }

// sees: does this word or sign come next?
func (r *reader) sees(s string) bool { return is(r.ahead(0), s) }

// takes takes a word or a sign, if it comes next.
func (r *reader) takes(s string) bool {
	sees := r.sees(s)
	if sees {
		r.next++
	}
	return sees
}

// need takes a word or a sign that must come next, and tells where it stands.
func (r *reader) need(s string) int {
	at := r.at()
	if !r.takes(s) {
		r.fail()
	}
	return at
}

// take takes a token of a kind that must come next.
func (r *reader) take(kind int) token.Token {
	t := r.ahead(0)
	if t.Kind != kind {
		r.fail()
	}
	r.next++
	return t
}

// name takes a name.
func (r *reader) name() string { return r.take(name).Text }

// is: is it this word or sign? (A text may mean what looks like one.)
func is(t token.Token, s string) bool {
	return t.Kind != text && (t.Text == s || s == ";" && t.Text == "\n")
}

// node makes one.
func node(kind int, text string, at int, kids ...api.Node) api.Node {
	return api.Node{Kind: kind, Text: text, Kids: kids, At: at}
}

// row reads one or more parts, with a sign between, which may stand behind the last one, too, and what ends them.
func row[T any](r *reader, between, end string, part func() T) []T {
	return within(r, false, func() []T {
		var l []T
		for more := true; more; more = r.takes(between) && !r.sees(end) {
			l = append(l, part())
		}
		r.need(end)
		return l
	})
}

// rowOrNone reads a row that may have no parts.
func rowOrNone[T any](r *reader, between, end string, part func() T) []T {
	if r.takes(end) {
		return nil
	}
	return row(r, between, end, part)
}

// within reads something in a head, or outside of one.
func within[T any](r *reader, head bool, read func() T) T {
	around := r.head
	r.head = head
	x := read()
	r.head = around
	return x
}
