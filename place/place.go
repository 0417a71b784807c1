// Package place is layer 1: bytes, lines and columns. See shared/doc/01-place.md.
package place

import (
	"strings"
	"unicode/utf8"
)

const (
	mark = '\uFEFF' // may stand at a text's beginning alone
	end  = -1       // stands for a sign where the bytes end
)

// Place is a line and a column.
type Place struct{ Line, Column int }

// Wrong tells where bytes cease to be a text; -1, if they are one.
func Wrong(b []byte) int {
	s, found := string(b), -1
	each(s, func(at int, sign rune, _ Place) bool {
		if sign == 0 || sign == mark && at > 0 || noSign(s[at:], sign) {
			found = at
		}
		return found < 0
	})
	return found
}

// Of tells the place of the byte at; zeros, if there is none.
func Of(b []byte, at int) Place {
	var found Place
	if at < 0 || at > len(b) {
		return found
	}
	each(string(b), func(begin int, _ rune, p Place) bool {
		found = p
		return begin < at
	})
	return found
}

// At tells the byte at which the sign of a place begins; -1, if there is none.
func At(b []byte, p Place) int {
	found := -1
	each(string(b), func(begin int, _ rune, here Place) bool {
		if here == p {
			found = begin
		}
		return here != p
	})
	return found
}

// Lines tells how many lines there are: the end stands in the last one.
func Lines(b []byte) int { return Of(b, len(b)).Line }

// each does a thing at each sign of s, and at its end, till it answers false.
func each(s string, do func(at int, sign rune, p Place) bool) {
	p := Place{Line: 1, Column: 1}
	for at, sign := range s {
		if !do(at, sign, p) {
			return
		}
		p.Column++
		if sign == '\n' {
			p = Place{Line: p.Line + 1, Column: 1}
		}
	}
	do(len(s), end, p)
}

// noSign: a range tells bytes that begin no sign as FFFD, which may be written out, too.
func noSign(rest string, sign rune) bool {
	return sign == utf8.RuneError && !strings.HasPrefix(rest, string(utf8.RuneError))
}
