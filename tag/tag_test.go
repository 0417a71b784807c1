package tag_test

import (
	"reflect"
	"slices"
	"strconv"
	"strings"
	"testing"

	"demotic/api"
	"demotic/tag"
)

func one(s string) tag.Expr { return tag.Expr{Tag: s} }

func not(x tag.Expr) tag.Expr { return tag.Expr{Op: "!", Kids: []tag.Expr{x}} }

func and(l ...tag.Expr) tag.Expr { return tag.Expr{Op: "&&", Kids: l} }

func or(l ...tag.Expr) tag.Expr { return tag.Expr{Op: "||", Kids: l} }

// nots tells an x behind n signs !.
func nots(n int, x tag.Expr) tag.Expr {
	for range n {
		x = not(x)
	}
	return x
}

// steps tells an x below n rows that take turns, each in the one ahead: its depth is n more.
func steps(n int, x tag.Expr) tag.Expr {
	for i := range n {
		x = []tag.Expr{or(one("a"), x), and(one("b"), x)}[i%2]
	}
	return x
}

var a, b, c = one("a"), one("b"), one("c")

// P5.1: what a constraint means.
func TestRead(t *testing.T) {
	for s, want := range map[string]tag.Expr{
		"a":                            a,
		"aZ_09.":                       one("aZ_09."),
		"0":                            one("0"),
		"_":                            one("_"),
		".":                            one("."),
		"9.x":                          one("9.x"),
		"go1.21":                       one("go1.21"),
		"package":                      one("package"),
		" a":                           a,
		"\t a \t":                      a,
		"!a":                           not(a),
		" ! a ":                        not(a),
		"!!a":                          not(not(a)),
		"! !\t!a":                      nots(3, a),
		"a&&b":                         and(a, b),
		"a || b":                       or(a, b),
		"a&&b&&c":                      and(a, b, c),
		"a||b||c||a":                   or(a, b, c, a),
		"a && b || c":                  or(and(a, b), c),
		"a || b && c":                  or(a, and(b, c)),
		"a&&b||c&&a":                   or(and(a, b), and(c, a)),
		"a || b && c || a":             or(a, and(b, c), a),
		"!a && b":                      and(not(a), b),
		"a && !b":                      and(a, not(b)),
		"!a || !b":                     or(not(a), not(b)),
		"(a)":                          a,
		"((( a )))":                    a,
		"(!a)":                         not(a),
		"!(a)":                         not(a),
		"!(!(a))":                      not(not(a)),
		"!(a && b)":                    not(and(a, b)),
		"!(a || b)":                    not(or(a, b)),
		"(a || b) && c":                and(or(a, b), c),
		"a && (b || c)":                and(a, or(b, c)),
		"(a && b) || c":                or(and(a, b), c),
		"(a && b) && c":                and(and(a, b), c),
		"a && (b && c)":                and(a, and(b, c)),
		"a || (b || c)":                or(a, or(b, c)),
		"(a || b) || (c || a)":         or(or(a, b), or(c, a)),
		"((a && b))":                   and(a, b),
		"(a && (b)) && ((c))":          and(and(a, b), c),
		"\t(\ta\t||\tb\t)\t&&\t!\tc\t": and(or(a, b), not(c)),
	} {
		if x, e := tag.Read(s); e != api.OK || !reflect.DeepEqual(x, want) {
			t.Errorf("P5.1: Read(%q): %v, error %d, not %v", s, x, e, want)
		}
	}
}

// P5.1: what is no constraint.
func TestNoRead(t *testing.T) {
	for _, s := range []string{
		"", " ", "\t", "()", "( )", "!", "!!", "! ", "&&", "||", "&", "|", "(", ")", ")(", "(a", "a)", "((a)", "(a))", "a(", "(a)b", "a(b)", "(a)(b)",
		"a b", "a\tb", "a !b", "a !", "a!", "!a b", "a &&", "&& a", "a ||", "|| a", "a && || b", "a && && b", "a || || b", "a &&& b", "a ||| b", "a & & b", "a | | b", "a & b", "a | b", "a &| b", "!&& a", "(&& a)", "(a &&)", "(a ||) b",
		"a-b", "a/b", "a,b", "a+b", "-a", "a=b", "\"a\"", "`a`", "a;", "{a}", "[a]", "~a", "#", "a\\",
		"a\n", "\na", "a\nb", "a\r", "\ra", "a\r&&b", "a\v", "a\f&& b", "a\u00a0", "a\x00", "\x00", "\u00e4", "a\u00e4", "\u0661", "go1.\uff11", "\ufeffa", "a\xff", "\xff", "\ufffd", "a //b", "//go:build a",
	} {
		if x, e := tag.Read(s); e != api.ErrTag || !reflect.DeepEqual(x, tag.Expr{}) {
			t.Errorf("P5.1: Read(%q): %v, error %d", s, x, e)
		}
	}
}

// P5.1: how long a constraint may be.
func TestLongRead(t *testing.T) {
	long := strings.Repeat("a", 500)
	if x, e := tag.Read(long); e != api.OK || !reflect.DeepEqual(x, one(long)) {
		t.Errorf("P5.1: %v, error %d", x, e)
	}
	if x, e := tag.Read("a" + strings.Repeat(" ", 499)); e != api.OK || !reflect.DeepEqual(x, a) {
		t.Errorf("P5.1: %v, error %d", x, e)
	}
	if x, e := tag.Read(strings.Repeat("a ", 250)); e != api.ErrTag || !reflect.DeepEqual(x, tag.Expr{}) {
		t.Errorf("P5.1: %v, error %d", x, e)
	}
	for _, s := range []string{long + "a", long + " ", " " + long, strings.Repeat("!", 501), strings.Repeat("(", 501), strings.Repeat("\xff", 501), strings.Repeat(" ", api.MaxSource+1)} {
		if x, e := tag.Read(s); e != api.ErrLong || !reflect.DeepEqual(x, tag.Expr{}) {
			t.Errorf("P5.1: %v, error %d", x, e)
		}
	}
}

// P5.1: how many may be within one another: signs, brackets (needed or not), and rows.
func TestDeepRead(t *testing.T) {
	within := func(n int, ahead, behind string) string {
		return strings.Repeat(ahead, n) + "a" + strings.Repeat(behind, n)
	}
	for s, want := range map[string]tag.Expr{
		within(99, "!", ""):                     nots(99, a),
		within(99, "(", ")"):                    a,
		within(99, "(", ")") + "&&b":            and(a, b),
		"b||" + within(99, "(", ")"):            or(b, a),
		"!!(" + within(96, "(", ")") + ")":      nots(2, a),
		within(49, "b&&(a||", ")"):              steps(98, a),
		"!" + within(49, "b&&(a||", ")") + "||": {},
		within(48, "b&&(a||", ")"):              steps(96, a),
	} {
		x, e := tag.Read(s)
		if ok := !reflect.DeepEqual(want, tag.Expr{}); ok != (e == api.OK) || !ok && e != api.ErrTag || !reflect.DeepEqual(x, want) {
			t.Errorf("P5.1: Read(%q): %v, error %d", s, x, e)
		}
	}
	deepest := strings.Replace(within(49, "b&&(a||", ")"), "||a)", "||!a)", 1)
	if x, e := tag.Read(deepest); e != api.OK || !reflect.DeepEqual(x, steps(98, not(a))) {
		t.Errorf("P5.1: Read(%q): %v, error %d", deepest, x, e)
	}
	for _, s := range []string{
		within(100, "!", ""), within(499, "!", ""), within(100, "(", ")"), within(249, "(", ")"), within(50, "!(", ")"), within(100, "(", ")") + "&&b", "b||" + within(100, "(", ")"),
		strings.Replace(deepest, "!", "!!", 1), within(50, "b&&(a||", ")"), within(62, "b&&(a||", ")"),
	} {
		if x, e := tag.Read(s); e != api.ErrTag || !reflect.DeepEqual(x, tag.Expr{}) {
			t.Errorf("P5.1: Read(%q): %v, error %d", s, x, e)
		}
	}
}

// wrong tells what is no right constraint.
func wrong() []tag.Expr {
	kid := []tag.Expr{a}
	return []tag.Expr{
		{}, one(" "), one("a b"), one(" a"), one("a "), one("a-b"), one("!a"), one("(a)"), one("a&&b"), one("\u00e4"), one("a\n"), one("a\xff"), one("\x00"),
		{Tag: "a", Kids: kid}, {Kids: kid},
		{Op: "!"}, {Op: "!", Tag: "a"}, {Op: "!", Tag: "a", Kids: kid}, {Op: "!", Kids: []tag.Expr{a, b}}, not(one("")), not(tag.Expr{}),
		{Op: "&&"}, and(a), {Op: "&&", Tag: "a"}, {Op: "&&", Tag: "a", Kids: []tag.Expr{a, b}}, and(a, tag.Expr{}), and(tag.Expr{}, a), and(a, b, one("")), and(a, and(b)),
		{Op: "||"}, or(a), {Op: "||", Tag: "a"}, {Op: "||", Tag: "a", Kids: []tag.Expr{a, b}}, or(a, tag.Expr{}), or(tag.Expr{}, a), or(a, b, one("-")), or(a, not(or(b))),
		{Op: "a"}, {Op: "a", Tag: "a"}, {Op: " ", Tag: "a"}, {Op: "&", Kids: []tag.Expr{a, b}}, {Op: "|", Kids: []tag.Expr{a, b}}, {Op: "!!", Kids: kid}, {Op: "()", Kids: kid}, {Op: "(", Kids: kid},
		nots(100, a), nots(5000, a), steps(100, a), steps(9000, a), and(a, nots(99, a)), or(nots(99, a), a), and(a, nots(98, one(""))),
	}
}

// P5.1, P5.2: of what is not right nothing is told.
func TestWrong(t *testing.T) {
	for _, x := range wrong() {
		if tag.Right(x) || tag.Holds(x, []string{"a", "b", ""}) || tag.Holds(x, nil) || tag.Least(x) != -1 || tag.Write(x) != "" {
			t.Errorf("P5.1: %.99v: %t, %d, %q", x, tag.Right(x), tag.Least(x), tag.Write(x))
		}
	}
	if x := and(one("go1.5"), one("")); tag.Least(x) != -1 {
		t.Errorf("P5.1: Least(%v): %d", x, tag.Least(x))
	}
}

// P5.1: what is right.
func TestRight(t *testing.T) {
	for _, x := range []tag.Expr{
		a, one("_"), one("."), one("9"), one("go1.07"), one("azAZ09_."), one(strings.Repeat("a", 501)),
		not(a), not(not(a)), and(a, b), or(a, a), and(a, b, c), and(and(a, b), c), or(a, or(b, c)), and(or(a, b), not(and(b, c))), or(and(a, b), not(or(b, c))),
		nots(99, a), steps(99, a), and(a, nots(98, b)), or(nots(98, b), a),
		{Tag: "a", Kids: []tag.Expr{}},
	} {
		if !tag.Right(x) {
			t.Errorf("P5.1: Right(%.99v)", x)
		}
	}
}

// P5.1: what holds.
func TestHolds(t *testing.T) {
	for s, want := range map[string]string{ // by which tags it holds: none, one, the other, both
		"a":                    "0101",
		"b":                    "0011",
		"c":                    "0000",
		"!a":                   "1010",
		"!!a":                  "0101",
		"a && b":               "0001",
		"a || b":               "0111",
		"!(a && b)":            "1110",
		"!(a || b)":            "1000",
		"a && !b":              "0100",
		"a && !a":              "0000",
		"a || !a":              "1111",
		"a && b && c":          "0000",
		"b && a && a":          "0001",
		"c || c || a":          "0101",
		"a && c || b":          "0011",
		"c && a || b && a":     "0001",
		"(c || a) && (b || c)": "0001",
		"go1.0":                "1111",
		"go1.1":                "1111",
		"go1.9":                "1111",
		"go1.10":               "1111",
		"go1.24":               "1111",
		"go1.25":               "0000",
		"go1.99":               "0000",
		"!go1.24":              "0000",
		"!go1.25":              "1111",
		"go1.21 && a":          "0101",
		"go1.25 || b":          "0011",
		"go1.25 && b":          "0000",
		"go1.24 && !go1.25":    "1111",
		"go1.00 || go1.024":    "0000",
		"go1.100 || go1.240":   "0000",
		"go1 || go1. || go2.1": "0000",
		"go1.5rc1 || go1.5.1":  "0000",
		"1.5 || Go1.5 || xgo1.5 || go1.5x || go.1.5": "0000",
	} {
		x, e := tag.Read(s)
		if e != api.OK {
			t.Fatalf("P5.1: Read(%q): error %d", s, e)
		}
		for i, tags := range [][]string{nil, {"a"}, {"x", "b"}, {"b", "x", "a"}} {
			if tag.Holds(x, tags) != (want[i] == '1') {
				t.Errorf("P5.1: Holds(%s, %v)", s, tags)
			}
		}
	}
}

// P5.1: the tags go1.N hang on N alone, all others on what is given.
func TestHoldsGiven(t *testing.T) {
	for n := range 100 {
		s := "go1." + strconv.Itoa(n)
		for _, tags := range [][]string{nil, {s}, {"go1.1", s, "go1.24"}} {
			if tag.Holds(one(s), tags) != (n <= 24) {
				t.Errorf("P5.1: Holds(%s, %v)", s, tags)
			}
		}
	}
	for _, s := range []string{"go1.00", "go1.07", "go1.024", "go1.100", "go1.240", "go1", "go1.", "go1..5", "go1.5rc1", "go1.5beta1", "go1.5.1", "go1_5", "go", "go2.5", "1.5", "GO1.5", "go1.x", "_", "."} {
		if tag.Holds(one(s), nil) || tag.Holds(one(s), []string{"", s + "0", s[1:]}) || !tag.Holds(one(s), []string{"x", s}) {
			t.Errorf("P5.1: Holds(%s)", s)
		}
	}
}

// P5.1: the least version.
func TestLeast(t *testing.T) {
	for s, want := range map[string]int{
		"a": -1, "go1.0": 0, "go1.7": 7, "go1.18": 18, "go1.25": 25, "go1.99": 99,
		"go1.07": -1, "go1.00": -1, "go1.100": -1, "go1": -1, "go1.": -1, "go1.5rc1": -1, "go1.5.1": -1, "go1.5beta2": -1, "1.5": -1, "go2.5": -1, "Go1.5": -1, "xgo1.5": -1, "go1.5x": -1,
		"!go1.18": -1, "!!go1.18": -1, "!a": -1,
		"go1.21 && !x": 21, "a && go1.3": 3, "go1.3 && a": 3, "go1.21 && go1.18": 21, "go1.18 && go1.21": 21, "go1.1 && go1.3 && go1.2": 3, "a && b": -1, "go1.0 && a": 0, "go1.5 && !go1.9": 5,
		"a || go1.18": -1, "go1.18 || a": -1, "go1.21 || go1.18": 18, "go1.18 || go1.21": 18, "go1.3 || go1.1 || go1.2": 1, "go1.3 || go1.1 || a": -1, "a || b": -1, "go1.0 || go1.9": 0, "go1.5 || !go1.9": -1,
		"go1.5 && a || go1.3 && b":                 3,
		"(go1.5 || a) && go1.3":                    3,
		"(go1.5 || go1.7) && go1.3":                5,
		"(go1.5 || go1.7) && (go1.9 || go1.8)":     8,
		"go1.5 || go1.7 && go1.3":                  5,
		"go1.7 || go1.5 && a":                      5,
		"go1.7 || a && b":                          -1,
		"!(go1.5 || go1.7) && go1.3":               3,
		"!(go1.5 && go1.7)":                        -1,
		"(go1.5 && (go1.6 && go1.4)) || (go1.8)":   6,
		"a && (b || c) && (go1.30 || go1.20) && c": 20,
	} {
		x, e := tag.Read(s)
		if e != api.OK || tag.Least(x) != want {
			t.Errorf("P5.1: Least(%s): %d, not %d", s, tag.Least(x), want)
		}
	}
}

// P5.2: how a constraint is written.
func TestWrite(t *testing.T) {
	for want, x := range map[string]tag.Expr{
		"a":                           a,
		"go1.21":                      one("go1.21"),
		"!a":                          not(a),
		"!!!a":                        nots(3, a),
		"a && b":                      and(a, b),
		"a || b || c":                 or(a, b, c),
		"a && b || c":                 or(and(a, b), c),
		"a || b && c && a":            or(a, and(b, c, a)),
		"(a || b) && c":               and(or(a, b), c),
		"a && (b || c)":               and(a, or(b, c)),
		"(a && b) && c":               and(and(a, b), c),
		"a && (b && c)":               and(a, and(b, c)),
		"a || (b || c) || a":          or(a, or(b, c), a),
		"!(a && b)":                   not(and(a, b)),
		"!!(a || b)":                  nots(2, or(a, b)),
		"!a && !b":                    and(not(a), not(b)),
		"!a || !!b":                   or(not(a), nots(2, b)),
		"!(a && b) || !(b || c)":      or(not(and(a, b)), not(or(b, c))),
		"!(a && (b || c)) && a":       and(not(and(a, or(b, c))), a),
		"(a || b && (c || a)) && b":   and(or(a, and(b, or(c, a))), b),
		strings.Repeat("!", 99) + "a": nots(99, a),
		strings.Repeat("a", 501):      one(strings.Repeat("a", 501)),
	} {
		if got := tag.Write(x); got != want {
			t.Errorf("P5.2: Write(%v): %q, not %q", x, got, want)
		}
	}
}

// R4: what is handed in is neither changed nor kept, and what is handed out is new.
func TestKeepsNothing(t *testing.T) {
	tags := []string{"a", "b", "spare"}
	tag.Holds(and(a, b), tags[:2])
	if !slices.Equal(tags, []string{"a", "b", "spare"}) {
		t.Errorf("R4: %v", tags)
	}
	src := []byte("//go:build a && b\npackage p\n//")
	file := src[: len(src)-2 : len(src)]
	x, _, _ := tag.Of(file)
	if string(src) != "//go:build a && b\npackage p\n//" {
		t.Errorf("R4: %q", src)
	}
	for i := range src {
		src[i] = 'x'
	}
	if !reflect.DeepEqual(x, and(a, b)) {
		t.Errorf("R4: %v", x)
	}
	one, _ := tag.Read("a && (b || c) && !a")
	other, _ := tag.Read("a && (b || c) && !a")
	_ = append(one.Kids[1].Kids, c)
	one.Kids[1].Kids[0] = c
	one.Kids[0] = c
	if !reflect.DeepEqual(other, and(a, or(b, c), not(a))) || !reflect.DeepEqual(one, and(c, or(c, c), not(a))) {
		t.Errorf("R4: %v, %v", one, other)
	}
	tag.Write(other)
	tag.Least(other)
	if !reflect.DeepEqual(other, and(a, or(b, c), not(a))) {
		t.Errorf("R4: %v", other)
	}
}
