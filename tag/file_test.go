package tag_test

import (
	"reflect"
	"strings"
	"testing"

	"demotic/api"
	"demotic/tag"
)

// P5.2: what a file's constraint is.
func TestOf(t *testing.T) {
	for s, want := range map[string]tag.Expr{
		"//go:build a":                            a,
		"//go:build a\npackage p":                 a,
		"//go:build\ta\npackage p":                a,
		"//go:build \t a\npackage p":              a,
		"//go:build a \t \npackage p":             a,
		"//go:build a\r\npackage p\r\n":           a,
		"//go:build a \r \r\t\npackage p":         a,
		"\n\n//go:build a\n":                      a,
		"  \t//go:build a\npackage p":             a,
		"\r//go:build a\npackage p":               a,
		"\ufeff//go:build a\npackage p":           a,
		"\ufeff \r\t//go:build a\npackage p":      a,
		"\ufeff\n//go:build a\npackage p":         a,
		"// x\n//go:build a && b\npackage p":      and(a, b),
		"/* x */\n//go:build !a\npackage p":       not(a),
		"/* x\n*/\n//go:build !a\npackage p":      not(a),
		"//go:build a\n/* x */ package p":         a,
		"//go:build a\n\n// x\n\npackage p":       a,
		"//go:build (a || b) && c\npackage p":     and(or(a, b), c),
		"x\n//go:build a\npackage p":              a,
		"x;\n//go:build a\npackage p":             a,
		"\"x\"\n//go:build a\npackage p":          a,
		"`\n`\n//go:build a\npackage p":           a,
		"packages\n//go:build a\npackage p":       a,
		"// package x\n//go:build a\npackage p":   a,
		"/* package\n*/\n//go:build a\npackage p": a,
		"\"package\"\n//go:build a":               a,
		"`package`\n//go:build a":                 a,
		"x\n//go:build a\ny":                      a,
		"//go:build a\npackage p\n//go:build b":   a,
		"//go:build a\npackage p //go:build b":    a,
		"//go:build a\npackage p\n//go:build -":   a,
		"//go:build a\n//go:buildb\npackage p":    a,
		"//go:build a\n//go:build\npackage p":     a,
		"//go:build a\n;//go:build b\npackage p":  a,
		"//go:build a\n///go:build b\npackage p":  a,
		"//go:build a\n/*//go:build b*/package p": a,
		"//go:build package":                      one("package"),
		"//go:build go1.18 || x \n\npackage p":    or(one("go1.18"), one("x")),
	} {
		if x, there, e := tag.Of([]byte(s)); e != api.OK || !there || !reflect.DeepEqual(x, want) {
			t.Errorf("P5.2: Of(%q): %v, %t, error %d", s, x, there, e)
		}
	}
}

// P5.2: where there is none.
func TestNotOf(t *testing.T) {
	for _, s := range []string{
		"", "\n", "\ufeff", "package p", "x", "// a", "//", "/* a */",
		"//go:build", "//go:build\n", "//go:build\r\npackage p", "//go:build\r a\npackage p", "//go:builda", "//go:build-", "//go:build!a\npackage p", "//go:build(a)\npackage p", "//go:build\va\npackage p", "//go:build\u00a0a\npackage p",
		"// go:build a\npackage p", "//\tgo:build a\npackage p", "///go:build a\npackage p", "//go: build a\npackage p", "//go :build a\npackage p", "//Go:build a\npackage p", "//go:Build a\npackage p", "// +build a\npackage p", "//x //go:build a\npackage p",
		"/*go:build a*/\npackage p", "/*//go:build a\n*/package p", "/*\n//go:build a\n*/\npackage p", "`\n//go:build a\n`\npackage p", "\"//go:build a\"\npackage p",
		"package p\n//go:build a", "package p //go:build a", "package //go:build a\np", "package p\n\n//go:build a\n\nimport", "package\n//go:build a\npackage p", "x; package\n//go:build a",
		"x //go:build a\npackage p", "x//go:build a", "; //go:build a\npackage p", "/**///go:build a\npackage p", "/* x */ //go:build a\npackage p", "/*\n*/ //go:build a\npackage p", "/*\n*///go:build a\npackage p", "`\n` //go:build a\npackage p", "\ufeffx //go:build a\npackage p", "\ufeff/**/ //go:build a\npackage p", "} //go:build a",
		"package p\n//go:build a\n//go:build b", "x //go:build a\ny //go:build b\npackage p",
	} {
		if x, there, e := tag.Of([]byte(s)); e != api.OK || there || !reflect.DeepEqual(x, tag.Expr{}) {
			t.Errorf("P5.2: Of(%q): %v, %t, error %d", s, x, there, e)
		}
	}
}

// P5.2: where it is wrong.
func TestWrongOf(t *testing.T) {
	full := "//go:build " + strings.Repeat("a", 499)
	if x, there, e := tag.Of([]byte(full + " \t\r\npackage p")); e != api.OK || !there || !reflect.DeepEqual(x, one(full[11:])) {
		t.Errorf("P5.2: %v, %t, error %d", x, there, e)
	}
	for s, want := range map[string]api.Errno{
		"//go:build a\n//go:build b\npackage p":                api.ErrTag,
		"//go:build a\n//go:build a":                           api.ErrTag,
		"//go:build a\n\n/* x */\n\t//go:build b\r\npackage p": api.ErrTag,
		"//go:build a\n//go:build \npackage p":                 api.ErrTag,
		"//go:build a\n//go:build b\n//go:build c\npackage p":  api.ErrTag,
		"//go:build ":                                                        api.ErrTag,
		"//go:build \t\r\npackage p":                                         api.ErrTag,
		"//go:build a b\npackage p":                                          api.ErrTag,
		"//go:build a &&\npackage p":                                         api.ErrTag,
		"//go:build a // b\npackage p":                                       api.ErrTag,
		"//go:build a /* b */\npackage p":                                    api.ErrTag,
		"//go:build a\rb\npackage p":                                         api.ErrTag,
		"//go:build \ra\npackage p":                                          api.ErrTag,
		"//go:build \u00e4\npackage p":                                       api.ErrTag,
		"//go:build " + strings.Repeat("!", 100) + "a":                       api.ErrTag,
		full + "a\npackage p":                                                api.ErrTag,
		"//go:build  " + full[11:] + "\npackage p":                           api.ErrTag,
		"//go:build\t" + strings.Repeat(" ", 500) + "a":                      api.ErrTag,
		"//go:build -\npackage p\n@":                                         api.ErrToken,
		"//go:build a\npackage p\n@":                                         api.ErrToken,
		"//go:build a\npackage p\n\"":                                        api.ErrToken,
		"//go:build a\n/*":                                                   api.ErrToken,
		"//go:build a\npackage p\n@\xff":                                     api.ErrText,
		"//go:build a\x00\npackage p":                                        api.ErrText,
		"//go:build a\n\ufeffpackage p":                                      api.ErrText,
		" \ufeff//go:build a\npackage p":                                     api.ErrText,
		"\xff" + strings.Repeat("a", api.MaxSource):                          api.ErrLong,
		"//go:build a\npackage p\n" + strings.Repeat("\n", api.MaxSource-22): api.ErrLong,
	} {
		if x, there, e := tag.Of([]byte(s)); e != want || there || !reflect.DeepEqual(x, tag.Expr{}) {
			t.Errorf("P5.2: Of(%.60q): %v, %t, error %d, not %d", s, x, there, e, want)
		}
	}
	if x, there, e := tag.Of([]byte("//go:build a\npackage p\n" + strings.Repeat("\n", api.MaxSource-23))); e != api.OK || !there || !reflect.DeepEqual(x, a) {
		t.Errorf("P5.2: %v, %t, error %d", x, there, e)
	}
	if x, there, e := tag.Of(nil); e != api.OK || there || !reflect.DeepEqual(x, tag.Expr{}) {
		t.Errorf("P5.2: %v, %t, error %d", x, there, e)
	}
}
