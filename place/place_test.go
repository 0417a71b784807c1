package place_test

import (
	"bytes"
	"math"
	"strings"
	"testing"
	"unicode/utf8"

	"demotic/place"
)

// P1.1: where bytes cease to be a text.
func TestWrong(t *testing.T) {
	for _, c := range []struct {
		bytes string
		want  int
	}{
		{"", -1},
		{"a", -1},
		{"a\u00e4\u20ac\U0001d11e\r\n\t\x01\x7f", -1},
		{"\x00", 0},
		{"a\x00", 1},
		{"a\n\x00\xff", 2},
		{"a\xff\x00", 1},
		{"\xff", 0},
		{"\x80a", 0},
		{"\u00e4\x80", 2},
		{"\u00e4\u00e4\xc3", 4},
		{"a\xe2\x82", 1},
		{"a\xe2\x82b", 1},
		{"\xf0\x9d\x84", 0},
		{"a\xc0\x80", 1},         // longer than it need be
		{"a\xe0\x80\x80", 1},     // the same
		{"a\xed\xa0\x80", 1},     // D800
		{"a\xf4\x90\x80\x80", 1}, // 110000
		{"a\xf5", 1},
		{"\ufeff", -1},
		{"\ufeffa", -1},
		{"a\ufeff", 1},
		{"\n\ufeff", 1},
		{"\ufeff\ufeff", 3},
		{"\ufeff\ufeff\x00", 3},
		{"\ufeff\x00", 3},
		{"\xef\xbb", 0},
		{"a\ufffd", -1}, // a sign like others
		{"\ufffd\xff", 3},
		{"\xff\ufffd", 0},
		{"a\xef\xbf", 1},
		{"\ufffe\uffff", -1},
		{strings.Repeat("\u00e4", 70000) + "\xff", 140000},
	} {
		if got := place.Wrong([]byte(c.bytes)); got != c.want {
			t.Errorf("Wrong(%.20q): %d, not %d", c.bytes, got, c.want)
		}
	}
	if got := place.Wrong(nil); got != -1 {
		t.Errorf("Wrong(nil): %d", got)
	}
}

// P1.1: a line more than bytes 10.
func TestLines(t *testing.T) {
	for s, want := range map[string]int{
		"": 1, "a": 1, "\n": 2, "a\n": 2, "a\nb": 2, "\n\n": 3, "a\u00e4\nb": 2,
		"\r": 1, "a\r\nb\r\n": 3, "\u2028\u0085\v\f": 1, "\xff\n\x00\n\xe2\x82\n": 4, "\ufeff\n": 2,
	} {
		if got := place.Lines([]byte(s)); got != want {
			t.Errorf("Lines(%q): %d, not %d", s, got, want)
		}
	}
	if got := place.Lines(nil); got != 1 {
		t.Errorf("Lines(nil): %d", got)
	}
}

// P1.2: the places of bytes, those within signs among them.
func TestOf(t *testing.T) {
	type row map[int]place.Place
	for s, want := range map[string]row{
		"":                    {0: {Line: 1, Column: 1}},
		"a":                   {0: {Line: 1, Column: 1}, 1: {Line: 1, Column: 2}},
		"\n":                  {0: {Line: 1, Column: 1}, 1: {Line: 2, Column: 1}},
		"a\u00e4\nb":          {0: {Line: 1, Column: 1}, 1: {Line: 1, Column: 2}, 2: {Line: 1, Column: 3}, 3: {Line: 1, Column: 3}, 4: {Line: 2, Column: 1}, 5: {Line: 2, Column: 2}},
		"\ufeffa":             {0: {Line: 1, Column: 1}, 1: {Line: 1, Column: 2}, 2: {Line: 1, Column: 2}, 3: {Line: 1, Column: 2}, 4: {Line: 1, Column: 3}},
		"\xff\xe2\x82a\x00b":  {0: {Line: 1, Column: 1}, 1: {Line: 1, Column: 2}, 2: {Line: 1, Column: 3}, 3: {Line: 1, Column: 4}, 4: {Line: 1, Column: 5}, 5: {Line: 1, Column: 6}, 6: {Line: 1, Column: 7}},
		"\r\n\r\n":            {1: {Line: 1, Column: 2}, 2: {Line: 2, Column: 1}, 4: {Line: 3, Column: 1}},
		"\u20ac":              {1: {Line: 1, Column: 2}, 2: {Line: 1, Column: 2}, 3: {Line: 1, Column: 2}},
		"\n\U0001d11e\n":      {1: {Line: 2, Column: 1}, 2: {Line: 2, Column: 2}, 5: {Line: 2, Column: 2}, 6: {Line: 3, Column: 1}},
		"\u00e4\ufeff\ufeffb": {2: {Line: 1, Column: 2}, 5: {Line: 1, Column: 3}, 8: {Line: 1, Column: 4}},
	} {
		for at, p := range want {
			if got := place.Of([]byte(s), at); got != p {
				t.Errorf("Of(%q, %d): %v, not %v", s, at, got, p)
			}
		}
	}
}

// P1.2: no byte, no place.
func TestOfNone(t *testing.T) {
	for _, s := range []string{"", "a", "a\u00e4\nb"} {
		for _, at := range []int{-1, len(s) + 1, len(s) + 2, math.MinInt, math.MaxInt} {
			if got := place.Of([]byte(s), at); got != (place.Place{}) {
				t.Errorf("Of(%q, %d): %v", s, at, got)
			}
		}
	}
}

// P1.2: the bytes of places, one behind the last sign of a line among them.
func TestAt(t *testing.T) {
	for _, c := range []struct {
		bytes        string
		line, column int
		want         int
	}{
		{"", 1, 1, 0},
		{"", 1, 2, -1},
		{"", 2, 1, -1},
		{"a\u00e4\nb", 1, 1, 0},
		{"a\u00e4\nb", 1, 2, 1},
		{"a\u00e4\nb", 1, 3, 3}, // the byte 10
		{"a\u00e4\nb", 1, 4, -1},
		{"a\u00e4\nb", 2, 1, 4},
		{"a\u00e4\nb", 2, 2, 5}, // the end
		{"a\u00e4\nb", 2, 3, -1},
		{"a\u00e4\nb", 3, 1, -1},
		{"a\n", 2, 1, 2},
		{"a\n", 2, 2, -1},
		{"\n\n", 1, 1, 0},
		{"\n\n", 2, 1, 1},
		{"\n\n", 3, 1, 2},
		{"\n\n", 1, 2, -1},
		{"\ufeffa", 1, 1, 0},
		{"\ufeffa", 1, 2, 3},
		{"\xff\xe2\x82a", 1, 3, 2},
		{"\xff\xe2\x82a", 1, 4, 3},
		{"ab", 0, 0, -1},
		{"ab", 0, 1, -1},
		{"ab", 1, 0, -1},
		{"ab", -1, 1, -1},
		{"ab", 1, -1, -1},
		{"ab", math.MinInt, math.MinInt, -1},
		{"ab", math.MaxInt, math.MaxInt, -1},
		{"ab", 1, math.MaxInt, -1},
	} {
		p := place.Place{Line: c.line, Column: c.column}
		if got := place.At([]byte(c.bytes), p); got != c.want {
			t.Errorf("At(%q, %v): %d, not %d", c.bytes, p, got, c.want)
		}
	}
	if got := place.At(nil, place.Place{Line: 1, Column: 1}); got != 0 {
		t.Errorf("At(nil): %d", got)
	}
}

// eachBytes does a thing with all rows of at most n of the parts.
func eachBytes(parts []string, n int, do func(b []byte)) {
	var more func(b []byte, n int)
	more = func(b []byte, n int) {
		do(b)
		for _, p := range parts {
			if n > 0 {
				more(append(b[:len(b):len(b)], p...), n-1)
			}
		}
	}
	more(nil, n)
}

// counted is an own reckoning of the places of the bytes of b, and of where signs begin.
func counted(b []byte) (places []place.Place, begins []bool) {
	p := place.Place{Line: 1, Column: 1}
	for i := 0; i < len(b); {
		_, size := utf8.DecodeRune(b[i:])
		places, begins = append(places, p), append(begins, true)
		p.Column++
		if b[i] == 10 {
			p = place.Place{Line: p.Line + 1, Column: 1}
		}
		for k := 1; k < size; k++ {
			places, begins = append(places, p), append(begins, false)
		}
		i += size
	}
	return append(places, p), append(begins, true)
}

// P1.2, P1.3, R4: of many bytes, Of and At agree with a reckoning of one's own, and with one another.
func TestAll(t *testing.T) {
	parts := []string{"a", "\n", "\u00e4", "\ufeff", "\ufffd", "\xff", "\xe2\x82", "\x00", "\U0001d11e"}
	eachBytes(parts, 5, func(b []byte) {
		before := string(b)
		places, begins := counted(b)
		wrong := -1
		for at := range b {
			sign, size := utf8.DecodeRune(b[at:])
			bad := sign == utf8.RuneError && size == 1 || sign == 0 || sign == 0xFEFF && at > 0
			if begins[at] && bad && wrong < 0 {
				wrong = at
			}
		}
		if got := place.Wrong(b); got != wrong {
			t.Fatalf("P1.1: Wrong(%q): %d, not %d", b, got, wrong)
		}
		if got := place.Lines(b); got != 1+bytes.Count(b, []byte{10}) {
			t.Fatalf("P1.1: Lines(%q): %d", b, got)
		}
		for at, want := range places {
			p := place.Of(b, at)
			if p != want {
				t.Fatalf("P1.2: Of(%q, %d): %v, not %v", b, at, p, want)
			}
			if begins[at] && place.At(b, p) != at {
				t.Fatalf("P1.3: At(%q, %v): %d, not %d", b, p, place.At(b, p), at)
			}
		}
		if string(b) != before {
			t.Fatalf("R4: %q was changed", before)
		}
	})
}

// P1.2: a place is told by At just where Of tells it of a byte.
func TestAtTellsNoMore(t *testing.T) {
	eachBytes([]string{"a", "\n", "\u00e4", "\xff"}, 4, func(b []byte) {
		places, begins := counted(b)
		want := map[place.Place]int{}
		for at, p := range places {
			if begins[at] {
				want[p] = at
			}
		}
		for line := -1; line < 7; line++ {
			for column := -1; column < 7; column++ {
				p := place.Place{Line: line, Column: column}
				at, there := want[p]
				if !there {
					at = -1
				}
				if got := place.At(b, p); got != at {
					t.Fatalf("At(%q, %v): %d, not %d", b, p, got, at)
				}
			}
		}
	})
}
