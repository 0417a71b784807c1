// Package token is layer 2: words and signs of a file. See shared/doc/02-token.md.
package token

import "demotic/api"

// The kinds of tokens, and of notes.
const (
	note = iota
	name
	word
	other
	number
	text
	sign
)

// Token is a word or a sign.
type Token struct {
	Kind int
	Text string
	At   int
}

// Scan tells all tokens.
func Scan(b []byte) (l []Token, at int, e api.Errno) {
	l, _, at, e = scan(b)
	return l, at, e
}

// Name: is it a name, and no word?
func Name(s string) bool {
	for i, r := range s {
		if !letter(r) && (i == 0 || !figure(r)) {
			return false
		}
	}
	return s != "" && Word(s) == 0
}

// Word tells whether it is a word: 1 of the fragment, 2 outside of it, 0 none.
func Word(s string) int {
	switch s {
	case "break", "continue", "else", "for", "func", "if", "import", "interface",
		"package", "range", "return", "struct", "type", "var":
		return 1
	case "case", "chan", "const", "default", "defer", "fallthrough", "go", "goto",
		"map", "select", "switch":
		return 2
	}
	return 0
}

// Notes tells all notes; none, if Scan tells an error.
func Notes(b []byte) []Token {
	_, l, _, _ := scan(b)
	return l
}
