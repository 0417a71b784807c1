package tag_test

import (
	"go/build/constraint"
	"reflect"
	"regexp"
	"slices"
	"strings"
	"testing"

	"demotic/api"
	"demotic/rows"
	"demotic/tag"
	"demotic/token"
)

var (
	runs    = regexp.MustCompile(`[a-zA-Z0-9_.]+`)
	words   = regexp.MustCompile(`[a-zA-Z0-9_]+`)
	reduced = regexp.MustCompile(`![ \t]*#|\([ \t]*#[ \t]*\)|#[ \t]*(&&|\|\|)[ \t]*#`)
	release = regexp.MustCompile(`^go1\.(0|[1-9][0-9]?)$`)
	old     = regexp.MustCompile(`^go1\.([0-9]|1[0-9]|2[0-4])$`)
	twice   = regexp.MustCompile(`![ \t]*!`)
	written = regexp.MustCompile(`^[!(]*[a-zA-Z0-9_.]+\)*( (&&|\|\|) [!(]*[a-zA-Z0-9_.]+\)*)*$`)
)

// constrains: do the rules, taken backwards, make one constraint of it? (Of what is not too deep.)
func constrains(s string) bool {
	s = runs.ReplaceAllString(strings.ReplaceAll(s, "#", "-"), "#")
	for last := ""; last != s; {
		last = s
		s = reduced.ReplaceAllString(s, "#")
	}
	return strings.Trim(s, " \t") == "#"
}

// same: are they the same constraint?
func same(x, y tag.Expr) bool {
	return x.Op == y.Op && x.Tag == y.Tag && slices.EqualFunc(x.Kids, y.Kids, same)
}

// needed: does each pair of brackets in s count?
func needed(t *testing.T, s string, x tag.Expr) {
	for i := range s {
		if s[i] != '(' {
			continue
		}
		depth, j := 1, i
		for depth > 0 {
			j++
			depth += map[byte]int{'(': 1, ')': -1}[s[j]]
		}
		if y, e := tag.Read(s[:i] + s[i+1:j] + s[j+1:]); e == api.OK && same(x, y) {
			t.Fatalf("P5.2: Write(%v): %q: brackets that are not needed", x, s)
		}
	}
}

// again checks P5.2 and P5.3 of a right constraint.
func again(t *testing.T, x tag.Expr) {
	s := tag.Write(x)
	if !tag.Right(x) || !written.MatchString(s) {
		t.Fatalf("P5.2: Write(%v): %q", x, s)
	}
	if len(s) > 500 {
		return
	}
	if y, e := tag.Read(s); e != api.OK || !same(x, y) {
		t.Fatalf("P5.3: %v, written %q, read %v, error %d", x, s, y, e)
	}
	needed(t, s, x)
}

// like holds a text against the rules and against Go's own constraints.
func like(t *testing.T, s string) {
	x, e := tag.Read(s)
	if ok := constrains(s); ok != (e == api.OK) || !ok && (e != api.ErrTag || !same(x, tag.Expr{})) {
		t.Fatalf("P5.1: Read(%q): %v, error %d", s, x, e)
	}
	if e != api.OK {
		return
	}
	again(t, x)
	if twice.MatchString(s) { // Go has no such
		return
	}
	y, err := constraint.Parse("//go:build " + s)
	if err != nil {
		t.Fatalf("P5.1: Read(%q): %v, but %v", s, x, err)
	}
	for _, tags := range [][]string{nil, {"a"}, {"b"}, {"a", "b"}} {
		holds := y.Eval(func(s string) bool { return old.MatchString(s) || !release.MatchString(s) && slices.Contains(tags, s) })
		if tag.Holds(x, tags) != holds {
			t.Fatalf("P5.1: Holds(%q, %v): %t", s, tags, !holds)
		}
	}
}

// P5.1 to P5.3: all short rows of what constraints are made of.
func TestRows(t *testing.T) {
	rows.Each([]string{"a", "b", "!", "(", ")", "&&", "||", " "}, 6, func(s string) { like(t, s) })
	rows.Each([]string{"a&&", "b||", "a", "!b", "(", ")", "go1.24", "go1.25 "}, 6, func(s string) { like(t, s) })
	rows.Each([]string{"a", "Z", "0", "_", ".", "&", "|", "\t", "\r", "\n", "-", "\u00e4", "\xff"}, 4, func(s string) { like(t, s) })
}

// least tells the least version, step by step: -1, if there is none.
func least(x tag.Expr) int {
	have := []int{}
	for _, k := range x.Kids {
		if n := least(k); n >= 0 {
			have = append(have, n)
		}
	}
	slices.Sort(have)
	switch {
	case x.Tag == "go1.3":
		return 3
	case x.Tag == "go1.25":
		return 25
	case x.Op == "&&" && len(have) > 0:
		return have[len(have)-1]
	case x.Op == "||" && len(have) == len(x.Kids):
		return have[0]
	}
	return -1
}

// P5.1 to P5.3: all small constraints, of each shape.
func TestSmall(t *testing.T) {
	l := []tag.Expr{one("a"), one("go1.3"), one("go1.25")}
	for range 2 {
		more := slices.Clone(l)
		for _, x := range l {
			more = append(more, not(x))
			for _, y := range l {
				more = append(more, and(x, y), or(x, y))
			}
		}
		l = append(more, and(l[0], l[1], l[2]), or(l[0], l[1], l[2]), and(l[2], l[len(l)-1], l[1]), or(l[1], l[len(l)-1], l[2]))
	}
	for _, x := range l {
		again(t, x)
		if tag.Least(x) != least(x) {
			t.Fatalf("P5.1: Least(%v): %d, not %d", x, tag.Least(x), least(x))
		}
	}
}

// P5.3: also of rows of one sign within one another, as deep as 500 bytes have them.
func TestDeepAgain(t *testing.T) {
	for _, join := range []func(...tag.Expr) tag.Expr{and, or} {
		for _, x := range []tag.Expr{a, not(a)} {
			for len(tag.Write(x)) <= 500 {
				again(t, x)
				again(t, not(x))
				x = join(b, x)
			}
		}
		for x := a; len(tag.Write(x)) <= 500 && tag.Right(x); x = not(join(x, b)) {
			again(t, x)
		}
	}
	for n := range 100 {
		again(t, nots(n, a))
		again(t, steps(n, a))
	}
}

// said tells what lines say of a file without texts and notes /*: all that may be its constraint.
func said(s string) (l []string) {
	for _, line := range strings.Split(strings.TrimPrefix(s, "\ufeff"), "\n") {
		code, _, _ := strings.Cut(line, "//")
		if slices.Contains(words.FindAllString(code, -1), "package") {
			return l
		}
		if rest, ok := strings.CutPrefix(strings.TrimLeft(line, " \t\r"), "//go:build"); ok && (strings.HasPrefix(rest, " ") || strings.HasPrefix(rest, "\t")) {
			l = append(l, strings.TrimRight(rest, " \t\r"))
		}
	}
	return l
}

// likeFile holds a file's constraint against its lines.
func likeFile(t *testing.T, s string) {
	x, there, e := tag.Of([]byte(s))
	_, _, wrong := token.Scan([]byte(s))
	switch {
	case !there && !same(x, tag.Expr{}) || there && (e != api.OK || !tag.Right(x)):
		t.Fatalf("R2: Of(%q): %v, %t, error %d", s, x, there, e)
	case wrong != api.OK:
		if there || e != wrong {
			t.Fatalf("P5.2: Of(%q): %v, %t, error %d", s, x, there, e)
		}
	case !strings.Contains(s, "/*") && !strings.ContainsAny(s, "\"`"):
		l := said(s)
		want, bad := tag.Expr{}, api.OK
		if len(l) == 1 {
			want, bad = tag.Read(l[0])
		}
		if ok := len(l) < 2 && bad == api.OK; !ok && e != api.ErrTag || ok && (e != api.OK || there != (len(l) == 1) || !same(x, want)) {
			t.Fatalf("P5.2: Of(%q): %v, %t, error %d", s, x, there, e)
		}
	}
}

// P5.2: all short rows of what is ahead of a file's package.
func TestFiles(t *testing.T) {
	rows.Each([]string{"//go:build a", "//go:build", "//", " ", "\t", "\n", "\r", "package", "x", ";", "b", "-"}, 5, func(s string) { likeFile(t, s) })
	rows.Each([]string{"\ufeff", "//go:build a", "/*", "*/", "\n", "`", "\"", " ", "package"}, 5, func(s string) { likeFile(t, s) })
	rows.Each([]string{"//go:build a\n", "//go:build b\r\n", "//go:build\n", " //go:build !c \n", "package p\n", "x\n", "// x\n", "\n"}, 5, func(s string) { likeFile(t, s) })
}

// FuzzTag: P5.1 to P5.3, and that every call ends, at whatever bytes.
func FuzzTag(f *testing.F) {
	f.Add("a && !(go1.24 || b)")
	f.Add("//go:build a\npackage p")
	f.Fuzz(func(t *testing.T, s string) {
		if len(s) > 500 {
			if x, e := tag.Read(s); e != api.ErrLong || !reflect.DeepEqual(x, tag.Expr{}) {
				t.Fatalf("P5.1: Read(%q): %v, error %d", s, x, e)
			}
		} else if len(s) < 90 { // beyond, it may be too deep
			like(t, s)
		}
		likeFile(t, s)
		likeFile(t, "//go:build "+s)
	})
}
