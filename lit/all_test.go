package lit_test

import (
	"math/big"
	"strconv"
	"strings"
	"testing"
	"unicode/utf8"

	"demotic/api"
	"demotic/lit"
	"demotic/rows"
)

// likeNumber holds a number against what Go itself makes of it.
func likeNumber(t *testing.T, s string) {
	n, e := lit.Number(s)
	want, ok := new(big.Int).SetString(s, 0)
	switch {
	case len(s) > 200:
		if n != "" || e != api.ErrLong {
			t.Fatalf("P3.1: Number(%q): %q, %d", s, n, e)
		}
	case !ok || strings.ContainsAny(s, "+-"):
		if n != "" || e != api.ErrLit {
			t.Fatalf("P3.1: Number(%q): %q, %d", s, n, e)
		}
	case n != want.String() || e != api.OK:
		t.Fatalf("P3.1: Number(%q): %q, %d", s, n, e)
	case lit.Plain(s) != (n == s && len(n) <= 200):
		t.Fatalf("P3.2: Plain(%q)", s)
	}
}

// likeText holds a text against what Go itself makes of it.
func likeText(t *testing.T, s string) {
	x, e := lit.Text(s)
	want, err := strconv.Unquote(s)
	switch {
	case len(s) > api.MaxSource:
		if x != "" || e != api.ErrLong {
			t.Fatalf("P3.1: Text(%q): %q, %d", s, x, e)
		}
	case err != nil || s[0] == '\'' || !utf8.ValidString(s) || strings.ContainsAny(s, "\x00\ufeff"):
		if x != "" || e != api.ErrLit {
			t.Fatalf("P3.1: Text(%q): %q, %d", s, x, e)
		}
	case x != want || e != api.OK:
		t.Fatalf("P3.1: Text(%q): %q, %d", s, x, e)
	}
}

// quoted checks P3.2 of some bytes.
func quoted(t *testing.T, s string) {
	q := lit.Quote(s)
	if x, e := lit.Text(q); len(q) <= api.MaxSource && (x != s || e != api.OK) {
		t.Fatalf("P3.2: Text(%q): %q, %d", q, x, e)
	}
	for _, c := range []byte(q) {
		if c < 32 || c > 126 {
			t.Fatalf("P3.1: Quote(%q): %q", s, q)
		}
	}
}

// P3.1, P3.2: all short rows of what numbers are made of.
func TestNumbers(t *testing.T) {
	rows.Each([]string{"0", "1", "7", "8", "_", "x", "X", "b", "B", "o", "O", "a", "F", "g", "-"}, 5, func(s string) { likeNumber(t, s) })
	rows.Each([]string{"0", "9", "_", "1f", "e", ".", " ", "\u00e4", "\x00", "\xff"}, 5, func(s string) { likeNumber(t, s) })
}

// P3.1: all short rows of what texts are made of.
func TestTexts(t *testing.T) {
	rows.Each([]string{"\"", "`", "'", "\\", "\n", "\r", "x", "4", "n", "\u00e4"}, 6, func(s string) { likeText(t, s) })
	rows.Each([]string{"\\", "x", "u", "U", "0", "00", "1", "4", "7", "f", "D8", "000"}, 5, func(s string) { likeText(t, "\""+s+"\"") })
	rows.Each([]string{"a", "\\", "\x00", "\ufeff", "\xff", "\xc3", "\xa4", "\ufffd"}, 5, func(s string) {
		likeText(t, "\""+s+"\"")
		likeText(t, "`"+s+"`")
		likeText(t, s)
	})
}

// P3.1: what each byte means behind a backslash.
func TestBackslashes(t *testing.T) {
	for c := range 256 {
		for _, behind := range []string{"", "1", "11", "111", "1111", "00000041", "\""} {
			likeText(t, "\"\\"+string([]byte{byte(c)})+behind+"\"")
		}
	}
	for n := range 1 << 10 {
		digits := strconv.FormatInt(int64(n), 8)
		likeText(t, "\"\\"+strings.Repeat("0", 4-len(digits))[:max(0, 3-len(digits))]+digits+"\"")
	}
}

// P3.1: all signs by their numbers, and what is none.
func TestSigns(t *testing.T) {
	for n := range 0x111000 {
		digits := strconv.FormatInt(int64(n), 16)
		s := `"\U` + strings.Repeat("0", 8-len(digits)) + digits + `"`
		x, e := lit.Text(s)
		if ok := utf8.ValidRune(rune(n)); ok != (e == api.OK) || ok && x != string(rune(n)) || !ok && (x != "" || e != api.ErrLit) {
			t.Fatalf("P3.1: Text(%s): %q, %d", s, x, e)
		}
	}
}

// P3.2: Quote of any bytes is a text's token, and means them.
func TestQuoted(t *testing.T) {
	rows.Each([]string{"a", "1", "\"", "\\", "n", "x", "\n", "\r", "\x00", "\ufeff", "\u00e4", "\xff", "'", "`"}, 4, func(s string) { quoted(t, s) })
	for c := range 256 {
		quoted(t, string([]byte{byte(c)}))
		quoted(t, string([]byte{'a', byte(c), '1', byte(c)}))
	}
	quoted(t, strings.Repeat("\xff", api.MaxSource/4-1))
}

// FuzzLit: P3.1 and P3.2, and that every call ends, at whatever bytes.
func FuzzLit(f *testing.F) {
	f.Add("0x_1F")
	f.Add("0_17")
	f.Add("\"a\\x41\\101\\u00e4\\U0001f600\\\"\"")
	f.Add("`a\r\n`")
	f.Fuzz(func(t *testing.T, s string) {
		likeNumber(t, s)
		likeText(t, s)
		likeText(t, "\""+s+"\"")
		likeText(t, "`"+s+"`")
		quoted(t, s)
	})
}
