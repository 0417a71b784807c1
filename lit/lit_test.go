package lit_test

import (
	"math/big"
	"strings"
	"testing"

	"demotic/api"
	"demotic/lit"
)

// P3.1: what numbers' tokens mean.
func TestNumber(t *testing.T) {
	for s, want := range map[string]string{
		"0":                       "0",
		"7":                       "7",
		"9":                       "9",
		"10":                      "10",
		"1_0":                     "10",
		"1_2_3":                   "123",
		"9_9":                     "99",
		"00":                      "0",
		"0_0":                     "0",
		"007":                     "7",
		"017":                     "15",
		"0_1_7":                   "15",
		"0x0":                     "0",
		"0x_0":                    "0",
		"0x00":                    "0",
		"0x_1F":                   "31",
		"0X1f":                    "31",
		"0xabcdef":                "11259375",
		"0XABCDEF":                "11259375",
		"0xa_B_c":                 "2748",
		"0b0":                     "0",
		"0b_1_0":                  "2",
		"0B11":                    "3",
		"0o0":                     "0",
		"0o17":                    "15",
		"0O_7_7":                  "63",
		"0b00000000":              "0",
		"4294967295":              "4294967295",
		"18446744073709551616":    "18446744073709551616",
		"0xFFFFFFFFFFFFFFFF":      "18446744073709551615",
		"0x1_0000_0000_0000_0000": "18446744073709551616",
	} {
		if n, e := lit.Number(s); e != api.OK || n != want {
			t.Errorf("P3.1: Number(%q): %q, %d, not %q", s, n, e, want)
		}
	}
}

// P3.1: what is no number's token.
func TestNoNumber(t *testing.T) {
	for _, s := range []string{
		"", "_", "__", "_1", "1_", "1__0", "1__", "_0", "0_", "0__7", "00_", "0__",
		"x", "0x", "0X", "0x_", "0x1_", "0x__1", "0x1__1", "0xg", "0xG", "0x1g", "0x@", "0x`", "0x/", "0x:", "x1", "_0x1", "0_x1", "00x1", "0x0x1",
		"0b", "0B", "0b_", "0b2", "0b12", "0b1_", "0ba", "0o", "0O", "0o8", "0o18", "0o_", "0oa",
		"08", "09", "018", "0_8", "1a", "a", "1f", "1e5", "1.5", "+1", "-1", "-0", " 1", "1 ", "1\n", "\x00", "1\x00", "\x001",
		"\uff11", "1\uff11", "\u0661", "1\xff", "\xff", "0x\u00e4", "\ufeff1", "0x\ufffd", "1,0", "1'0",
	} {
		if n, e := lit.Number(s); e != api.ErrLit || n != "" {
			t.Errorf("P3.1: Number(%q): %q, %d", s, n, e)
		}
	}
}

// P3.1: how long a number may be.
func TestLongNumber(t *testing.T) {
	for _, s := range []string{
		strings.Repeat("9", 200), "0x" + strings.Repeat("f", 198), "0b" + strings.Repeat("1", 198), strings.Repeat("0", 200), "1" + strings.Repeat("0", 199),
		"0" + strings.Repeat("7", 199), "0x" + strings.Repeat("_0", 98) + "_1", "0" + strings.Repeat("_7", 99) + "7",
	} {
		want, ok := new(big.Int).SetString(s, 0)
		if n, e := lit.Number(s); !ok || e != api.OK || n != want.String() {
			t.Errorf("P3.1: Number(%q): %q, %d", s, n, e)
		}
	}
	for s, want := range map[string]api.Errno{
		strings.Repeat("1", 201):        api.ErrLong,
		strings.Repeat("0", 201):        api.ErrLong,
		"0x" + strings.Repeat("0", 199): api.ErrLong,
		strings.Repeat("a", 201):        api.ErrLong,
		strings.Repeat("a", 200):        api.ErrLit,
		strings.Repeat("\u00e4", 101):   api.ErrLong,
		strings.Repeat("\u00e4", 100):   api.ErrLit,
		strings.Repeat("1", 199) + "_":  api.ErrLit,
		strings.Repeat("1", 200) + "_":  api.ErrLong,
	} {
		if n, e := lit.Number(s); e != want || n != "" {
			t.Errorf("P3.1: Number(%q): %q, %d, not %d", s, n, e, want)
		}
	}
}

// P3.1: what texts' tokens mean.
func TestText(t *testing.T) {
	for s, want := range map[string]string{
		`""`:                                "",
		`"a"`:                               "a",
		`"'"`:                               "'",
		"\"`\"":                             "`",
		"\"\r\t\x01\x7f\"":                  "\r\t\x01\x7f",
		"\"\u00e4\ufffd\U0001f600\"":        "\u00e4\ufffd\U0001f600",
		`"\a\b\f\n\r\t\v\\\""`:              "\a\b\f\n\r\t\v\\\"",
		`"a\nb"`:                            "a\nb",
		`"\\n"`:                             `\n`,
		`"\\"`:                              `\`,
		`"\""`:                              `"`,
		`"\x41\x4a\x4A\x00\xff\xFF\x5f"`:    "AJJ\x00\xff\xff_",
		`"\x411"`:                           "A1",
		`"\101\000\377\0011"`:               "A\x00\xff\x011",
		`"\u00e4\u00E4\u0000\uFEFFe"`:       "\u00e4\u00e4\x00\ufeffe",
		`"\ud7ff\ue000\uffff\ufffd"`:        "\ud7ff\ue000\uffff\ufffd",
		`"\u00411"`:                         "A1",
		`"\U0001f600\U0010FFFF\U000000410"`: "\U0001f600\U0010ffffA0",
		`"\xc3\xa4\xc3"`:                    "\u00e4\xc3",
		"``":                                "",
		"`a`":                               "a",
		"`\"'\\`":                           `"'\`,
		"`\\n\\x4`":                         `\n\x4`,
		"`a\n\tb`":                          "a\n\tb",
		"`\ra\r\nb\r\r`":                    "a\nb",
		"`\r`":                              "",
		"`\u00e4\ufffd`":                    "\u00e4\ufffd",
	} {
		if x, e := lit.Text(s); e != api.OK || x != want {
			t.Errorf("P3.1: Text(%q): %q, %d, not %q", s, x, e, want)
		}
	}
}

// P3.1: what is no text's token.
func TestNoText(t *testing.T) {
	for _, s := range []string{
		"", `"`, "`", "a", "1", "'a'", "''", "'\"'", "aa", "aba", `"a`, `a"`, `"a'`, "\"a`", "`a\"", "`a", "a`", ` "a"`, `"a" `, `"a";`,
		`"a"b"`, `"""`, `""""`, `"a""b"`, "`a`b`", "```", "````", `"\"`, `"\\\"`, `"\"""`,
		"\"\n\"", "\"a\nb\"", "\"\\\n\"", "\"\\", "\"\\\x00\"",
		`"\q"`, `"\'"`, "\"\\`\"", `"\A"`, `"\N"`, `"\ "`, `"\X41"`, `"\-1"`, "\"\\\u00e4\"", "\"\\\r\"", `"\e"`, `"\?"`,
		`"\x"`, `"\x4"`, `"\x4g"`, `"\xg4"`, `"\x 4"`, `"\x_4"`, `"\x+4"`, `"\x4\"`, `"\x4\n"`, "\"\\x4\u00e4\"", "\"\\x\u00e4\"",
		`"\1"`, `"\0"`, `"\10"`, `"\108"`, `"\180"`, `"\800"`, `"\10a"`, `"\400"`, `"\777"`, `"\1_0"`, "\"\\1\u00e4\"",
		`"\u"`, `"\u004"`, `"\u004g"`, `"\ud800"`, `"\udfff"`, `"\uDABC"`, `"\ud83d\ude00"`, `"\u+041"`,
		`"\U"`, `"\U0000041"`, `"\U0000004g"`, `"\U00110000"`, `"\U0000d800"`, `"\U0000dfff"`, `"\U80000000"`, `"\Uffffffff"`, `"\U80000041"`, `"\U7fffffff"`, `"\U10000041"`, `"\Uffff0041"`,
		"\"\x00\"", "\"a\x00\"", "`\x00`", "\"\ufeff\"", "`\ufeff`", "`a\ufeffb`", "\ufeff\"a\"", "\ufeff`a`", "\ufeff",
		"\"\xff\"", "`\xff`", "\"\xc3\"", "\"\xed\xa0\x80\"", "\"\xc0\x80\"", "\"\\n\xff\"", "\"\xf4\x90\x80\x80\"", "\xff", "\xff\xff",
	} {
		if x, e := lit.Text(s); e != api.ErrLit || x != "" {
			t.Errorf("P3.1: Text(%q): %q, %d", s, x, e)
		}
	}
}

// P3.1: how long a text may be.
func TestLongText(t *testing.T) {
	most := api.MaxSource
	for s, want := range map[string]string{
		`"` + strings.Repeat("a", most-2) + `"`:        strings.Repeat("a", most-2),
		"`" + strings.Repeat("\n", most-2) + "`":       strings.Repeat("\n", most-2),
		"`" + strings.Repeat("\r", most-2) + "`":       "",
		`"` + strings.Repeat(`\n`, most/2-1) + `"`:     strings.Repeat("\n", most/2-1),
		`"` + strings.Repeat("\u00e4", most/2-1) + `"`: strings.Repeat("\u00e4", most/2-1),
	} {
		if x, e := lit.Text(s); e != api.OK || x != want {
			t.Errorf("P3.1: Text(%.20q): error %d", s, e)
		}
	}
	for s, want := range map[string]api.Errno{
		`"` + strings.Repeat("a", most-1) + `"`:        api.ErrLong,
		"`" + strings.Repeat("\r", most-1) + "`":       api.ErrLong,
		strings.Repeat("a", most+1):                    api.ErrLong,
		strings.Repeat("\xff", most+1):                 api.ErrLong,
		strings.Repeat("a", most):                      api.ErrLit,
		`"` + strings.Repeat("a", most-3) + "\n" + `"`: api.ErrLit,
	} {
		if x, e := lit.Text(s); e != want || x != "" {
			t.Errorf("P3.1: Text(%.20q): error %d, not %d", s, e, want)
		}
	}
}

// P3.1: how bytes are written plainly.
func TestQuote(t *testing.T) {
	for s, want := range map[string]string{
		"":                `""`,
		"a":               `"a"`,
		" ~!#[]^'`":       "\" ~!#[]^'`\"",
		`"`:               `"\""`,
		`\`:               `"\\"`,
		`\n`:              `"\\n"`,
		"\n\t":            `"\n\t"`,
		"\r\a\b\f\v":      `"\x0d\x07\x08\x0c\x0b"`,
		"\x00\x1f\x7f":    `"\x00\x1f\x7f"`,
		"\u00e4":          `"\xc3\xa4"`,
		"\ufeff\xff\x80a": `"\xef\xbb\xbf\xff\x80a"`,
		"\x011":           `"\x011"`,
	} {
		if q := lit.Quote(s); q != want {
			t.Errorf("P3.1: Quote(%q): %s, not %s", s, q, want)
		}
	}
}

// P3.1: each byte that is written as it is, and each that is not.
func TestQuoteBytes(t *testing.T) {
	for c := range 256 {
		one := string([]byte{byte(c)})
		got := lit.Quote(one)
		want := `"\x` + string("0123456789abcdef"[c/16]) + string("0123456789abcdef"[c%16]) + `"`
		switch {
		case c == '"' || c == '\\':
			want = `"\` + one + `"`
		case c == '\n':
			want = `"\n"`
		case c == '\t':
			want = `"\t"`
		case c >= 32 && c <= 126:
			want = `"` + one + `"`
		}
		if got != want {
			t.Errorf("P3.1: Quote(%q): %s, not %s", one, got, want)
		}
	}
}

// P3.1: numbers that are written plainly.
func TestPlain(t *testing.T) {
	for _, s := range []string{"0", "1", "9", "10", "90", "1234567890", "1" + strings.Repeat("0", 199), strings.Repeat("9", 200)} {
		if !lit.Plain(s) {
			t.Errorf("P3.1: Plain(%q)", s)
		}
	}
	for _, s := range []string{
		"", "00", "01", "010", "-1", "+1", "-0", "1_0", "_", "_1", "1a", "a", "a1", "0x1", "0b1", "1.0", " 1", "1 ", "1\n", "1/", "1:", "/", ":", "\x00", "1\x00", "\uff11", "\xff", "1\xff",
		strings.Repeat("9", 201), strings.Repeat("1", 1000), strings.Repeat("0", 200),
	} {
		if lit.Plain(s) {
			t.Errorf("P3.1: not Plain(%q)", s)
		}
	}
}
