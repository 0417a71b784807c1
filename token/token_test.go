package token_test

import (
	"bytes"
	"slices"
	"strings"
	"testing"

	"demotic/api"
	"demotic/token"
)

// The kinds of tokens; of notes there is one, 0.
const (
	name = 1 + iota
	word
	other
	number
	text
	sign
)

// scanned tells the tokens of what is right, and checks what P2.1 and P2.3 say of them all.
func scanned(t *testing.T, s string) []token.Token {
	t.Helper()
	l, at, e := token.Scan([]byte(s))
	if e != api.OK || at != 0 {
		t.Fatalf("P2.1: Scan(%.60q): error %d at %d", s, e, at)
	}
	return l
}

// told tells tokens as texts, "kind text", to be compared at a glance.
func told(l []token.Token) []string {
	var out []string
	for _, x := range l {
		out = append(out, string(rune('0'+x.Kind))+" "+x.Text)
	}
	return out
}

// P2.1: the kinds and texts of tokens, one behind the other.
func TestKinds(t *testing.T) {
	for s, want := range map[string][]string{
		"":                             nil,
		" \t\r\n\n":                    nil,
		"\ufeff":                       nil,
		"\ufeffx;":                     {"1 x", "6 ;"},
		"\ufeff\nx;":                   {"1 x", "6 ;"},
		"x := 1 // y":                  {"1 x", "6 :=", "4 1", "6 \n"},
		"a\n+b":                        {"1 a", "6 \n", "6 +", "1 b", "6 \n"},
		"_ _1 A9z a_B;":                {"1 _", "1 _1", "1 A9z", "1 a_B", "6 ;"},
		"0 17 0x1F 1_000 0b1 9zZ_;":    {"4 0", "4 17", "4 0x1F", "4 1_000", "4 0b1", "4 9zZ_", "6 ;"},
		"1.5e+3;":                      {"4 1", "6 .", "4 5e", "6 +", "4 3", "6 ;"},
		".5;":                          {"6 .", "4 5", "6 ;"},
		"1-2;":                         {"4 1", "6 -", "4 2", "6 ;"},
		"ifx if _if iF;":               {"1 ifx", "2 if", "1 _if", "1 iF", "6 ;"},
		"map mapp go;":                 {"3 map", "1 mapp", "3 go", "6 ;"},
		`"" "a" "\"" "\\";`:            {`5 ""`, `5 "a"`, `5 "\""`, `5 "\\"`, "6 ;"},
		`"\\\"" "\q//" "/*";`:          {`5 "\\\""`, `5 "\q//"`, `5 "/*"`, "6 ;"},
		"\"`\" `\"` ``;":               {"5 \"`\"", "5 `\"`", "5 ``", "6 ;"},
		"`a\n\\`;":                     {"5 `a\n\\`", "6 ;"},
		"\"a\rb\" `\r`;":               {"5 \"a\rb\"", "5 `\r`", "6 ;"},
		"\"\u00e4\\\u00e4\" `\ufffd`;": {"5 \"\u00e4\\\u00e4\"", "5 `\ufffd`", "6 ;"},
		`a"b"c;`:                       {"1 a", `5 "b"`, "1 c", "6 ;"},
		"f(x)[0]{y};":                  {"1 f", "6 (", "1 x", "6 )", "6 [", "4 0", "6 ]", "6 {", "1 y", "6 }", "6 ;"},
		"a/b/ /c;":                     {"1 a", "6 /", "1 b", "6 /", "6 /", "1 c", "6 ;"},
		"a/**/b;":                      {"1 a", "1 b", "6 ;"},
		"a/*/*/b;":                     {"1 a", "1 b", "6 ;"},
		"a/*/ */b;":                    {"1 a", "1 b", "6 ;"},
		"a/***/b;":                     {"1 a", "1 b", "6 ;"},
		"a//*\nb;":                     {"1 a", "6 \n", "1 b", "6 ;"},
		"a/*//*/b;":                    {"1 a", "1 b", "6 ;"},
	} {
		if got := told(scanned(t, s)); !slices.Equal(got, want) {
			t.Errorf("Scan(%q): %q, not %q", s, got, want)
		}
	}
}

// P2.1: each sign that is named is one, and the longest counts.
func TestSigns(t *testing.T) {
	all := strings.Fields("<<= >>= &^= ... && || == != <= >= := ++ -- += -= *= /= %= &= |= ^= << >> &^ <- + - * / % & | ^ < > = ! ( ) [ ] { } , ; . : ~")
	for _, s := range all {
		l := scanned(t, s+" ;")
		if len(l) != 2 || l[0] != (token.Token{Kind: sign, Text: s, At: 0}) {
			t.Errorf("Scan(%q): %v", s, l)
		}
	}
	for s, want := range map[string][]string{
		"<<<=;":    {"6 <<", "6 <=", "6 ;"},
		"<<==;":    {"6 <<=", "6 =", "6 ;"},
		">>>;":     {"6 >>", "6 >", "6 ;"},
		"&^&;":     {"6 &^", "6 &", "6 ;"},
		"&&^=;":    {"6 &&", "6 ^=", "6 ;"},
		"&^==;":    {"6 &^=", "6 =", "6 ;"},
		"....;":    {"6 ...", "6 .", "6 ;"},
		"..;":      {"6 .", "6 .", "6 ;"},
		"+++;":     {"6 ++", "6 +", "6 ;"},
		"---a;":    {"6 --", "6 -", "1 a", "6 ;"},
		"<--;":     {"6 <-", "6 -", "6 ;"},
		"<-=;":     {"6 <-", "6 =", "6 ;"},
		"|||;":     {"6 ||", "6 |", "6 ;"},
		"===;":     {"6 ==", "6 =", "6 ;"},
		"!==;":     {"6 !=", "6 =", "6 ;"},
		":==;":     {"6 :=", "6 =", "6 ;"},
		"~=;":      {"6 ~", "6 =", "6 ;"},
		"=:;":      {"6 =", "6 :", "6 ;"},
		"**=;":     {"6 *", "6 *=", "6 ;"},
		"%%=^^=;":  {"6 %", "6 %=", "6 ^", "6 ^=", "6 ;"},
		"- -+ +;":  {"6 -", "6 -", "6 +", "6 +", "6 ;"},
		"a<<b>=c;": {"1 a", "6 <<", "1 b", "6 >=", "1 c", "6 ;"},
	} {
		if got := told(scanned(t, s)); !slices.Equal(got, want) {
			t.Errorf("Scan(%q): %q, not %q", s, got, want)
		}
	}
}

// P2.1: where a semicolon is put in, and where it stands then.
func TestSemicolons(t *testing.T) {
	for s, want := range map[string][]int{
		"":                        nil,
		"\n":                      nil,
		"a":                       {1},
		"a ":                      {2},
		"a\n":                     {1},
		"a\n\n\n":                 {1},
		"a \r\n":                  {3},
		"a;":                      nil,
		"a;\n":                    nil,
		"a\n;":                    {1},
		"a\nb":                    {1, 3},
		"a // b":                  {6}, // the end, behind the note
		"a // b\n":                {6}, // the byte 10, behind the note
		"a // \u00e4\r\nb":        {8, 10},
		"a /* b */":               {9},
		"a /* b */\n":             {9},
		"a /* b */ // c\n":        {14},
		"a /*\n*/ b":              {2, 9}, // the note with a byte 10 in it
		"a /* b */ /*\n*/":        {10},
		"a /*\n*/ /*\n*/ \n":      {2},
		"a /*\n*/ // b":           {2},
		"a /*\r*/ b;":             nil,
		"/*\n*/ // a":             nil,
		"// a\n/* b */":           nil,
		"a /*\n*/ +\nb":           {2, 11},
		"`a\nb` c\n":              {7},
		"1\n":                     {1},
		"\"\"\n":                  {2},
		"``\n":                    {2},
		"\ufeff\na":               {5},
		"break\ncontinue\nreturn": {5, 14, 21},
		"fallthrough\n":           {11},
		"a++\nb--\n":              {3, 7},
		"a)\nb]\nc}\n":            {2, 5, 8},
		"(\n[\n{\n,\n.\n:\n~\n":   nil,
		"+\n-\n=\n:=\n==\n...\n":  nil,
		"*\n/ \n!\n<\n>\n<-\n":    nil,
		"else\nfor\nfunc\nif\nimport\ninterface\npackage\nrange\nstruct\ntype\nvar\n": nil,
		"case\nchan\nconst\ndefault\ndefer\ngo\ngoto\nmap\nselect\nswitch\n":          nil,
	} {
		var got []int
		for _, x := range scanned(t, s) {
			if x.Text == "\n" {
				got = append(got, x.At)
				if x.Kind != sign {
					t.Errorf("Scan(%q): a semicolon of kind %d", s, x.Kind)
				}
			}
		}
		if !slices.Equal(got, want) {
			t.Errorf("Scan(%q): semicolons at %v, not %v", s, got, want)
		}
	}
}

// P2.1: where there is no token, and nothing is told beside that.
func TestNoToken(t *testing.T) {
	for s, want := range map[string]int{
		"@":                 0,
		"a @":               2,
		"a\n\t#b":           3,
		"$":                 0,
		"?":                 0,
		"\\":                0,
		"'a'":               0,
		"a\v":               1,
		"a\f":               1,
		"a\x01":             1,
		"a\x7f":             1,
		"\u00e4":            0,
		"a\u00e4":           1,
		"1\u00e4":           1,
		"\ufeff\u00e4":      3,
		"a\u00a0b":          1,
		"a\u2028b":          1,
		"\ufffd":            0,
		"a \"":              2,
		"a \"b":             2,
		"a \"b\\":           2,
		"a \"b\\\"":         2,
		"\"\\\\\\\"":        0,
		"\"a\nb\"":          0,
		"\"a\\\n\"":         0, // the backslash goes with the byte 10
		"\"a\" \"":          4,
		"x `y":              2,
		"x `y\n\"":          2,
		"`a` `":             4,
		"/* z":              0,
		"a /*/":             2,
		"a /*":              2,
		"a /* *\n/":         2,
		"a /* b */ /* c *":  10,
		"/* a */ */ @":      11,
		"@ \" ` /*":         0,
		"// \" ` /* @\n\n@": 13,
	} {
		l, at, e := token.Scan([]byte(s))
		if e != api.ErrToken || at != want || len(l) > 0 {
			t.Errorf("Scan(%q): %v, %d, %d, not at %d", s, l, at, e, want)
		}
		if n := token.Notes([]byte(s)); len(n) > 0 {
			t.Errorf("P2.2: Notes(%q): %v", s, n)
		}
	}
}

// P2.1: bytes that are no text, be they within a note, a text, or behind what is no token.
func TestNoText(t *testing.T) {
	for s, want := range map[string]int{
		"a\xff":          1,
		"\x00":           0,
		"@\x00":          1, // ErrText is named first
		"\"\x00\"":       1,
		"// a\xff":       4,
		"/* \ufeff */":   3,
		"a\ufeff":        1,
		"\ufeff\ufeff":   3,
		"`\xed\xa0\x80":  1,
		"// a\n\xe2\x82": 5,
	} {
		l, at, e := token.Scan([]byte(s))
		if e != api.ErrText || at != want || len(l) > 0 {
			t.Errorf("Scan(%q): %v, %d, %d, not at %d", s, l, at, e, want)
		}
		if n := token.Notes([]byte(s)); len(n) > 0 {
			t.Errorf("P2.2: Notes(%q): %v", s, n)
		}
	}
}

// P2.1: just as many bytes as may be, and one more.
func TestLong(t *testing.T) {
	long := strings.Repeat("a", api.MaxSource)
	l := scanned(t, long)
	if len(l) != 2 || l[0].Text != long || l[1] != (token.Token{Kind: sign, Text: "\n", At: api.MaxSource}) {
		t.Errorf("Scan of MaxSource bytes: %d tokens", len(l))
	}
	if l := scanned(t, strings.Repeat(";", api.MaxSource)); len(l) != api.MaxSource {
		t.Errorf("Scan of MaxSource signs: %d tokens", len(l))
	}
	note := "//" + strings.Repeat("a", api.MaxSource-2)
	if n := token.Notes([]byte(note)); len(n) != 1 || n[0].Text != note {
		t.Errorf("P2.2: Notes of MaxSource bytes: %d", len(n))
	}
	if n := token.Notes([]byte(note + "a")); len(n) > 0 {
		t.Errorf("P2.2: Notes of more: %d", len(n))
	}
	for _, more := range []string{long + "a", long + "\xff", "\x00" + long, "@" + long, long + long, strings.Repeat("\u00e4", api.MaxSource/2) + "a"} {
		l, at, e := token.Scan([]byte(more))
		if e != api.ErrLong || at != api.MaxSource || len(l) > 0 {
			t.Errorf("Scan of %d bytes: %d tokens, %d, %d", len(more), len(l), at, e)
		}
	}
}

var words = map[string]int{
	"break": 1, "continue": 1, "else": 1, "for": 1, "func": 1, "if": 1, "import": 1, "interface": 1, "package": 1,
	"range": 1, "return": 1, "struct": 1, "type": 1, "var": 1,
	"case": 2, "chan": 2, "const": 2, "default": 2, "defer": 2, "fallthrough": 2, "go": 2, "goto": 2, "map": 2,
	"select": 2, "switch": 2,
}

// P2.1: Word, Name, and the kinds of tokens agree on words.
func TestWords(t *testing.T) {
	for s, want := range words {
		l := scanned(t, s+" ;")
		if token.Word(s) != want || token.Name(s) || l[0] != (token.Token{Kind: name + want, Text: s, At: 0}) {
			t.Errorf("%q: Word %d, Name %v, %v", s, token.Word(s), token.Name(s), l)
		}
		for _, no := range []string{s + "s", s[1:], "_" + s, strings.ToUpper(s)} {
			if words[no] == 0 && (token.Word(no) != 0 || !token.Name(no) || scanned(t, no)[0].Kind != name) {
				t.Errorf("%q: Word %d, Name %v", no, token.Word(no), token.Name(no))
			}
		}
		for _, no := range []string{s + " ", " " + s, s + "\n", s + s + ";"} {
			if token.Word(no) != 0 || token.Name(no) {
				t.Errorf("%q: Word %d, Name %v", no, token.Word(no), token.Name(no))
			}
		}
	}
	for _, no := range []string{"", "x", "1", "+", "\n", "int", "true", "nil", "\xff"} {
		if token.Word(no) != 0 {
			t.Errorf("Word(%q): %d", no, token.Word(no))
		}
	}
}

// P2.1: names; what is one is one token, and nothing else is.
func TestNames(t *testing.T) {
	for s, want := range map[string]bool{
		"a": true, "_": true, "__": true, "Z": true, "a1": true, "_9": true, "z_A0": true, "int": true, "true": true,
		strings.Repeat("a", 1000): true,
		"":                        false, "1": false, "1a": false, "a b": false, " a": false, "a ": false, "a-b": false, "a.b": false,
		"\u00e4": false, "a\u00e4": false, "a\xff": false, "\xff": false, "\x00": false, "a\x00": false, "\ufeffa": false,
		"a\n": false, "\"a\"": false, "@": false, "[": false, "`": false, "{": false, "/": false, ":": false,
		"a@": false, "a[": false, "a`": false, "a{": false, "a/": false, "a:": false, "\u0661": false, "a\u0661": false,
	} {
		if got := token.Name(s); got != want {
			t.Errorf("Name(%.20q): %v", s, got)
		}
	}
}

// P2.2: the notes, with their texts and places.
func TestNotes(t *testing.T) {
	type notes []token.Token
	for s, want := range map[string]notes{
		"":                      nil,
		"a / b;":                nil,
		"\"// a\" + `/* b */`":  nil,
		"//":                    {{Text: "//", At: 0}},
		"//\n//":                {{Text: "//", At: 0}, {Text: "//", At: 3}},
		"a // b\n/* c */":       {{Text: "// b", At: 2}, {Text: "/* c */", At: 7}},
		"// a\r\nb":             {{Text: "// a\r", At: 0}},
		"// /* a\nb // */":      {{Text: "// /* a", At: 0}, {Text: "// */", At: 10}},
		"/* // a */ b":          {{Text: "/* // a */", At: 0}},
		"/**//**/":              {{Text: "/**/", At: 0}, {Text: "/**/", At: 4}},
		"/*/*/a":                {{Text: "/*/*/", At: 0}},
		"a /*\n\u00e4\n*/ b":    {{Text: "/*\n\u00e4\n*/", At: 2}},
		"\ufeff//go:build a\n":  {{Text: "//go:build a", At: 3}},
		"\u00e4":                nil,
		"// a\n@":               nil,
		"/* a */ /* b":          nil,
		"// a\n\"b":             nil,
		"// \u00e4\ufffd\t\"`'": {{Text: "// \u00e4\ufffd\t\"`'", At: 0}},
	} {
		if got := token.Notes([]byte(s)); !slices.Equal(got, want) {
			t.Errorf("Notes(%q): %v, not %v", s, got, want)
		}
	}
	if got := token.Notes(nil); len(got) > 0 {
		t.Errorf("Notes(nil): %v", got)
	}
}

// R4: what is handed in is not changed, nor kept.
func TestHandedIn(t *testing.T) {
	room := []byte("x := \"a\" // b\n/* c */ y" + "\x00\xff@")
	b := room[:len(room)-3]
	before := bytes.Clone(room)
	l, _, _ := token.Scan(b)
	n := token.Notes(b)
	if !bytes.Equal(room, before) {
		t.Errorf("%q was changed to %q", before, room)
	}
	if again, _, _ := token.Scan(b); !slices.Equal(again, l) {
		t.Errorf("R5: %v, then %v", l, again)
	}
	clear(room)
	if l[0].Text != "x" || l[2].Text != "\"a\"" || n[0].Text != "// b" || n[1].Text != "/* c */" {
		t.Errorf("%v and %v hang on what was handed in", l, n)
	}
}
