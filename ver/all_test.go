package ver_test

import (
	"regexp"
	"strconv"
	"strings"
	"testing"

	"demotic/api"
	"demotic/rows"
	"demotic/ver"
)

// The same words as the document's, as patterns.
var (
	version   = regexp.MustCompile(`^1\.(0|[1-9][0-9]?)(\.[0-9]+|rc[0-9]+|beta[0-9]+)?$`)
	path      = regexp.MustCompile(`^[a-zA-Z0-9_.-]+(/[a-zA-Z0-9_.-]+)*$`)
	behind    = regexp.MustCompile(`(?s)//.*$`)
	empty     = regexp.MustCompile(`^[ \t\r]*$`)
	module    = regexp.MustCompile(`^[ \t\r]*module[ \t\r]+([^ \t\r]+)[ \t\r]*$`)
	needs     = regexp.MustCompile(`^[ \t\r]*go[ \t\r]+([^ \t\r]+)[ \t\r]*$`)
	toolchain = regexp.MustCompile(`^[ \t\r]*toolchain[ \t\r]+[^ \t\r]+[ \t\r]*$`)
)

// minor tells a version's minor by the patterns: -1, if it is none.
func minor(s string) int {
	m := version.FindStringSubmatch(s)
	if m == nil {
		return -1
	}
	n, _ := strconv.Atoi(m[1])
	return n
}

// said tells what a go.mod says by the patterns; false, if it is none.
func said(s string) (m ver.Mod, ok bool) {
	modules, versions := 0, 0
	m.Minor = 16
	for _, line := range strings.Split(s, "\n") {
		line = behind.ReplaceAllString(line, "")
		if x := module.FindStringSubmatch(line); x != nil && path.MatchString(x[1]) && len(x[1]) <= 200 {
			modules++
			m.Path = x[1]
		} else if x := needs.FindStringSubmatch(line); x != nil && minor(x[1]) >= 0 {
			versions++
			m.Minor = minor(x[1])
		} else if !toolchain.MatchString(line) && !empty.MatchString(line) {
			return ver.Mod{}, false
		}
	}
	if modules != 1 || versions > 1 {
		return ver.Mod{}, false
	}
	return m, true
}

// like holds what is told of a row against the patterns, and checks P4.3.
func like(t *testing.T, s string) {
	n, e := ver.Minor(s)
	if want := minor(s); want < 0 && (n != 0 || e != api.ErrVer) || want >= 0 && (n != want || e != api.OK) {
		t.Fatalf("P4.1: Minor(%q): %d, error %d", s, n, e)
	}
	if ver.Path(s) != (len(s) <= 200 && path.MatchString(s)) {
		t.Fatalf("P4.1: Path(%q)", s)
	}
	if m := (ver.Mod{Path: s, Minor: len(s) % 100}); ver.Path(s) {
		if again, e := ver.Read(ver.Write(m)); e != api.OK || again != m {
			t.Fatalf("P4.3: %v: %v, error %d", m, again, e)
		}
	}
	likeMod(t, s)
}

// likeMod holds what a go.mod says against the patterns, and checks P4.3.
func likeMod(t *testing.T, s string) {
	m, e := ver.Read([]byte(s))
	if len(s) > api.MaxSource {
		if m != (ver.Mod{}) || e != api.ErrLong {
			t.Fatalf("P4.2: Read(%q): %v, error %d", s, m, e)
		}
		return
	}
	if want, ok := said(s); m != want || ok && e != api.OK || !ok && e != api.ErrMod {
		t.Fatalf("P4.2: Read(%q): %v, error %d", s, m, e)
	}
	if e == api.OK {
		if again, e := ver.Read(ver.Write(m)); e != api.OK || again != m {
			t.Fatalf("P4.3: %v: %v, error %d", m, again, e)
		}
	}
}

// P4.1 to P4.3: all short rows of what versions, paths and go.mods are made of.
func TestRows(t *testing.T) {
	rows.Each([]string{"1", "1.", ".", "0", "9", "rc", "beta", "x", "-", "\u0661"}, 5, func(s string) { like(t, s) })
	rows.Each([]string{"a", "Z", "0", "_", "-", ".", "/", " ", "\u00e4", "\xff"}, 5, func(s string) { like(t, s) })
	rows.Each([]string{"module", "go", "toolchain", " ", "\t\r", "\n", "a", "1.2", "1.30", "//", "/", "\v"}, 5, func(s string) { likeMod(t, s) })
	rows.Each([]string{"module", "module a", "go 1.9", "go", " ", "\n", "\r", "//", "/", "b", "toolchain c"}, 5, func(s string) { likeMod(t, s) })
}

// P4.3: what is written is read as it was.
func TestAgain(t *testing.T) {
	for _, p := range []string{"a", "a/b", ".", "..", "-", "_", "module", "go/go", "toolchain", "1.2", "0", strings.Repeat("z", 200)} {
		for n := range 100 {
			m := ver.Mod{Path: p, Minor: n}
			if again, e := ver.Read(ver.Write(m)); e != api.OK || again != m {
				t.Errorf("P4.3: %v: %v, error %d", m, again, e)
			}
		}
	}
}

// FuzzRead: P4.1 to P4.3, and that every call ends, at whatever bytes.
func FuzzRead(f *testing.F) {
	f.Add("// x\nmodule a/b.c // y\n\n\tgo 1.22.1\r\ntoolchain go1.24\n")
	f.Add("1.21rc2")
	f.Add("1.9beta1")
	f.Fuzz(func(t *testing.T, s string) {
		like(t, s)
		likeMod(t, "module a\n"+s)
	})
}
