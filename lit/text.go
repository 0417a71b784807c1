package lit

import (
	"slices"
	"strings"
	"unicode/utf8"

	"demotic/api"
	"demotic/place"
)

// text tells what a text's token means.
func text(s string) string {
	need(len(s) >= 2 && s[0] == s[len(s)-1], api.ErrLit)
	need(place.Wrong([]byte(s)) < 0, api.ErrLit)
	within := s[1 : len(s)-1]
	switch s[0] {
	case '`':
		need(!strings.Contains(within, "`"), api.ErrLit)
		return string(slices.DeleteFunc([]byte(within), func(c byte) bool { return c == '\r' }))
	case '"':
		return parts(within)
	}
	panic(api.ErrLit)
}

// meaning is what a text means, as far as it was read.
type meaning struct {
	bytes  []byte
	single map[byte]byte // what the signs mean that stand alone behind a backslash
}

// parts tells what the parts between two quotes mean.
func parts(s string) string {
	m := meaning{single: map[byte]byte{'a': 7, 'b': 8, 'f': 12, 'n': 10, 'r': 13, 't': 9, 'v': 11, '\\': '\\', '"': '"'}}
	for more := true; more; {
		var plain string
		plain, s, more = strings.Cut(s, `\`)
		need(!strings.ContainsAny(plain, "\"\n"), api.ErrLit)
		m.bytes = append(m.bytes, plain...)
		if more {
			s = m.behind(s)
		}
	}
	return string(m.bytes)
}

// behind reads what belongs to a backslash, and tells the rest.
func (m *meaning) behind(s string) string {
	need(s != "", api.ErrLit)
	if b, ok := m.single[s[0]]; ok {
		m.bytes = append(m.bytes, b)
		return s[1:]
	}
	switch s[0] {
	case 'x':
		return m.oneByte(s[1:], 2, 16)
	case 'u':
		return m.oneSign(s[1:], 4)
	case 'U':
		return m.oneSign(s[1:], 8)
	}
	return m.oneByte(s, 3, 8)
}

// oneByte reads a byte's n digits.
func (m *meaning) oneByte(s string, n int, base uint32) string {
	worth := reckon(s, n, base)
	need(worth <= 255, api.ErrLit)
	m.bytes = append(m.bytes, byte(worth))
	return s[n:]
}

// oneSign reads the n digits of a sign's number.
func (m *meaning) oneSign(s string, n int) string {
	worth := reckon(s, n, 16)
	need(worth <= utf8.MaxRune && utf8.ValidRune(rune(worth)), api.ErrLit)
	m.bytes = utf8.AppendRune(m.bytes, rune(worth))
	return s[n:]
}

// reckon tells what the first n digits are worth; eight of base 16 still fit.
func reckon(s string, n int, base uint32) (worth uint32) {
	need(len(s) >= n, api.ErrLit)
	for _, r := range s[:n] {
		worth = worth*base + digit(r, base)
	}
	return worth
}
