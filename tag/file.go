package tag

import (
	"bytes"
	"strings"

	"demotic/api"
	"demotic/token"
)

const (
	lead   = "//go:build"
	blanks = " \t"
)

// Of tells a file's constraint.
func Of(b []byte) (x Expr, there bool, e api.Errno) {
	tokens, _, e := token.Scan(b)
	if e != api.OK {
		return Expr{}, false, e
	}
	said := asked(b, tokens)
	switch len(said) {
	case 0:
		return Expr{}, false, api.OK
	case 1:
		if x, e := Read(said[0]); e == api.OK {
			return x, true, api.OK
		}
	}
	return Expr{}, false, api.ErrTag
}

// asked tells what all notes ask for that may tell a file's constraint.
func asked(b []byte, tokens []token.Token) (said []string) {
	end := packageAt(tokens, len(b))
	for _, note := range token.Notes(b) {
		rest, ok := strings.CutPrefix(note.Text, lead)
		if ok && rest != "" && strings.Contains(blanks, rest[:1]) && note.At < end && alone(b[:note.At]) {
			said = append(said, strings.TrimRight(rest, blanks+"\r"))
		}
	}
	return said
}

// packageAt tells where the first word package stands; without one the end.
func packageAt(tokens []token.Token, end int) int {
	for _, t := range tokens {
		if t.Text == "package" {
			return t.At
		}
	}
	return end
}

// alone: does nothing that counts stand ahead in the same line? (FEFF stands at a text's beginning alone.)
func alone(ahead []byte) bool {
	line := ahead[bytes.LastIndexByte(ahead, '\n')+1:]
	return len(bytes.Trim(line, blanks+"\r\uFEFF")) == 0
}
