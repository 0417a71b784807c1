package token

import (
	"strings"
	"unicode/utf8"

	"demotic/api"
	"demotic/place"
)

// mark is the sign that may stand at a file's beginning, and is a blank there.
const mark = '\uFEFF'

// signs stand the longest first, so that the first one that fits is the right one.
var signs = [...]string{
	"<<=", ">>=", "&^=", "...",
	"&&", "||", "==", "!=", "<=", ">=", ":=", "++", "--", "+=", "-=", "*=", "/=",
	"%=", "&=", "|=", "^=", "<<", ">>", "&^", "<-",
	"+", "-", "*", "/", "%", "&", "|", "^", "<", ">", "=", "!",
	"(", ")", "[", "]", "{", "}", ",", ";", ".", ":", "~",
}

// fault is what is thrown where there is no token: the byte.
type fault int

// scanner is what is looked through, and what was found in it.
type scanner struct {
	src           string
	tokens, notes []Token
}

// scan tells all tokens and all notes.
func scan(b []byte) (tokens, notes []Token, at int, e api.Errno) {
	if len(b) > api.MaxSource {
		return nil, nil, api.MaxSource, api.ErrLong
	}
	if wrong := place.Wrong(b); wrong >= 0 {
		return nil, nil, wrong, api.ErrText
	}
	defer func() {
		if thrown := recover(); thrown != nil {
			f, _ := thrown.(fault) // nothing else is thrown; it would count as one at 0
			tokens, notes, at, e = nil, nil, int(f), api.ErrToken
		}
	}()
	s := scanner{src: string(b)}
	s.all()
	return s.tokens, s.notes, 0, api.OK
}

// all takes everything; the signs within what was taken are passed over.
func (s *scanner) all() {
	next := 0
	for at, r := range s.src {
		if at < next {
			continue
		}
		next = at + s.take(at, r)
	}
	s.endLine(len(s.src))
}

// take takes what begins at a byte with the sign r, and tells how many bytes that has.
func (s *scanner) take(at int, r rune) int {
	rest := s.src[at:]
	switch {
	case r == '\n':
		s.endLine(at)
		return 1
	case blank(r):
		return utf8.RuneLen(r)
	case strings.HasPrefix(rest, "//"):
		return s.note(at, before(rest, func(r rune) bool { return r == '\n' }))
	case strings.HasPrefix(rest, "/*"):
		return s.note(at, through(rest, "/*", "*/"))
	case letter(r):
		size := before(rest, outside)
		return s.token(named(rest[:size]), at, size)
	case figure(r):
		return s.token(number, at, before(rest, outside))
	case r == '"':
		return s.token(text, at, quoted(rest))
	case r == '`':
		return s.token(text, at, through(rest, "`", "`"))
	}
	return s.token(sign, at, signSize(rest))
}

// token keeps a token.
func (s *scanner) token(kind, at, size int) int {
	s.tokens = append(s.tokens, s.cut(kind, at, size))
	return size
}

// note keeps a note; one over several lines ends a line.
func (s *scanner) note(at, size int) int {
	t := s.cut(note, at, size)
	if strings.Contains(t.Text, "\n") {
		s.endLine(at)
	}
	s.notes = append(s.notes, t)
	return size
}

// cut makes a token of some bytes; without any there is none.
func (s *scanner) cut(kind, at, size int) Token {
	if size == 0 {
		panic(fault(at))
	}
	return Token{Kind: kind, Text: s.src[at : at+size], At: at}
}

// endLine puts a semicolon in, where what stands in front asks for one.
func (s *scanner) endLine(at int) {
	if n := len(s.tokens); n > 0 && closes(s.tokens[n-1]) {
		s.tokens = append(s.tokens, Token{Kind: sign, Text: "\n", At: at})
	}
}

// named tells the kind of what is written as a name is.
func named(s string) int {
	switch Word(s) {
	case 1:
		return word
	case 2:
		return other
	}
	return name
}

// closes: is a semicolon put in behind this token at a line's end?
func closes(t Token) bool {
	switch t.Kind {
	case name, number, text:
		return true
	}
	switch t.Text {
	case "break", "continue", "return", "fallthrough", "++", "--", ")", "]", "}":
		return true
	}
	return false
}

// before tells how many bytes stand ahead of the first sign that a closure holds for.
func before(s string, ends func(rune) bool) int {
	for i, r := range s {
		if ends(r) {
			return i
		}
	}
	return len(s)
}

// through tells how many bytes there are from the opening, with which s begins, through the next closing behind it: 0 without.
func through(s, opening, closing string) int {
	i := strings.Index(s[len(opening):], closing)
	if i < 0 {
		return 0
	}
	return len(opening) + i + len(closing)
}

// quoted tells how many bytes a text in quotes has: 0, if it does not end within its line.
func quoted(s string) int {
	behind := false // a backslash stands ahead
	for i, r := range s[1:] {
		switch {
		case r == '\n':
			return 0
		case behind:
			behind = false
		case r == '\\':
			behind = true
		case r == '"':
			return 1 + i + 1
		}
	}
	return 0
}

// signSize tells how many bytes the longest sign at the beginning has: 0 without.
func signSize(s string) int {
	for _, one := range signs {
		if strings.HasPrefix(s, one) {
			return len(one)
		}
	}
	return 0
}

// blank: may it stand between tokens? (A text has the mark at its beginning alone.)
func blank(r rune) bool { return r == ' ' || r == '\t' || r == '\r' || r == mark }

// outside: does a name or a number end here?
func outside(r rune) bool { return !letter(r) && !figure(r) }

func letter(r rune) bool { return 'a' <= r && r <= 'z' || 'A' <= r && r <= 'Z' || r == '_' }

func figure(r rune) bool { return '0' <= r && r <= '9' }
