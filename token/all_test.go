package token_test

import (
	"go/scanner"
	gotoken "go/token"
	"slices"
	"strings"
	"testing"

	"demotic/api"
	"demotic/place"
	"demotic/rows"
	"demotic/token"
)

// blanks: does nothing but blanks stand in s, which begins at the byte at?
func blanks(s string, at int) bool {
	if at == 0 {
		s = strings.TrimPrefix(s, "\ufeff")
	}
	return strings.Trim(s, " \t\r\n") == ""
}

// standing checks P2.3: tokens and notes stand in s as they are, in their order, blanks between.
func standing(t *testing.T, s string) {
	l, at, e := token.Scan([]byte(s))
	notes := token.Notes([]byte(s))
	if e != api.OK {
		if len(l) > 0 || len(notes) > 0 || at < 0 || at > len(s) {
			t.Fatalf("R2: Scan(%q): %v, %v, %d, %d", s, l, notes, at, e)
		}
		return
	}
	var all []token.Token
	last := -1
	for _, x := range l {
		if x.At < last || x.Kind < name || x.Kind > sign {
			t.Fatalf("P2.3: Scan(%q): %v", s, l)
		}
		last = x.At
		if x.Text != "\n" {
			all = append(all, x)
		} else if x.At < len(s) && s[x.At] != '\n' && !strings.HasPrefix(s[x.At:], "/*") {
			t.Fatalf("P2.1: Scan(%q): a semicolon at %d", s, x.At)
		}
	}
	all = append(all, notes...)
	slices.SortFunc(all, func(a, b token.Token) int { return a.At - b.At })
	next := 0
	for _, x := range all {
		if x.Text == "" || x.At < next || !strings.HasPrefix(s[x.At:], x.Text) || !blanks(s[next:x.At], next) {
			t.Fatalf("P2.3: Scan(%q): %v, %v", s, l, notes)
		}
		next = x.At + len(x.Text)
	}
	if !blanks(s[next:], next) {
		t.Fatalf("P2.3: Scan(%q): %v, %v, and a rest", s, l, notes)
	}
}

// P2.3, R2: of many texts.
func TestStanding(t *testing.T) {
	rows.Each([]string{"a", "1", "\"", "`", "\\", "/", "*", "\n", " ", ")", "+", "\u00e4"}, 5, func(s string) { standing(t, s) })
	rows.Each([]string{"\ufeff", "\xff", "\r", "return", "<", "=", "&", "^", ".", "@"}, 5, func(s string) { standing(t, s) })
}

// FuzzScan: P2.3, and that every call ends, at whatever bytes.
func FuzzScan(f *testing.F) {
	f.Add([]byte("\ufeffpackage main // a\nfunc main() { x := `b` /*\n*/ }"))
	f.Add([]byte("\"\\\"\\\\\" &^= ..."))
	f.Fuzz(func(t *testing.T, b []byte) {
		standing(t, string(b))
		if wrong := place.Wrong(b); wrong >= 0 && len(b) <= api.MaxSource {
			if _, at, e := token.Scan(b); at != wrong || e != api.ErrText {
				t.Fatalf("P2.1: Scan(%q): %d, %d", b, at, e)
			}
		}
	})
}

// of Go's own words what kinds they have here.
func kind(tok gotoken.Token) int {
	switch {
	case tok == gotoken.IDENT:
		return name
	case tok.IsKeyword():
		return 0 // word or other
	case tok == gotoken.INT:
		return number
	case tok == gotoken.STRING:
		return text
	}
	return sign
}

// asGo tells the tokens as Go's own scanner does.
func asGo(src string) (l []token.Token, ok bool) {
	ok = true
	file := gotoken.NewFileSet().AddFile("", 1, len(src))
	var s scanner.Scanner
	s.Init(file, []byte(src), func(gotoken.Position, string) { ok = false }, 0)
	for {
		pos, tok, lit := s.Scan()
		switch tok {
		case gotoken.EOF:
			return l, ok
		case gotoken.FLOAT, gotoken.IMAG, gotoken.CHAR, gotoken.ILLEGAL:
			ok = false
		}
		if lit == "" || tok.IsOperator() && tok != gotoken.SEMICOLON {
			lit = tok.String()
		}
		l = append(l, token.Token{Kind: kind(tok), Text: lit, At: int(pos) - 1})
	}
}

// likeGo checks that what Go tells of a text is told here, too. (Where a semicolon is put in behind a note, Go tells another place.)
func likeGo(t *testing.T, s string) {
	want, ok := asGo(s)
	if !ok {
		return
	}
	l := scanned(t, s)
	if len(l) != len(want) {
		t.Fatalf("Scan(%q): %v, not %v", s, l, want)
	}
	for i, x := range l {
		w := want[i]
		if w.Text == "\n" {
			w.At = x.At
		}
		if w.Kind == 0 && (x.Kind == word || x.Kind == other) {
			w.Kind = x.Kind
		}
		if x != w {
			t.Fatalf("Scan(%q): %v, not %v", s, l, want)
		}
	}
}

// P2.1: where Go has the same tokens, they are the same.
func TestLikeGo(t *testing.T) {
	parts := strings.Fields("x _a1 break continue return fallthrough else map func 17 0 \"\" \"a\\\"b\" `` " +
		"<<= >>= &^= ... && || == != <= >= := ++ -- += -= *= /= %= &= |= ^= << >> &^ <- + - * / % & | ^ < > = ! ( ) [ ] { } , ; . : ~")
	between := []string{" ", "\n", "//b\n", "/*b*/", "/*\n*/", "/*b*///b\n", "\r\n\n"}
	for _, a := range parts {
		for _, b := range parts {
			if kind := scanned(t, a)[0].Kind; kind != name && kind != word && kind != other && kind != number {
				likeGo(t, a+b)
			}
			for _, c := range between {
				likeGo(t, a+c+b)
				likeGo(t, a+c+b+c)
			}
		}
	}
	rows.Each([]string{"a ", "\"", "`", "\\", "/", "*", "\n", " ", "}", "+"}, 5, func(s string) {
		if !strings.Contains(s, "\\") { // Go asks what stands behind one
			likeGo(t, s)
		}
	})
}
