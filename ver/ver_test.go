package ver_test

import (
	"strconv"
	"strings"
	"testing"

	"demotic/api"
	"demotic/ver"
)

// P4.1: what is a version.
func TestMinor(t *testing.T) {
	for s, want := range map[string]int{
		"1.0":                            0,
		"1.9":                            9,
		"1.10":                           10,
		"1.17":                           17,
		"1.99":                           99,
		"1.0.0":                          0,
		"1.21.3":                         21,
		"1.21.03":                        21,
		"1.21.1234567890123456789012345": 21,
		"1.21rc2":                        21,
		"1.21rc0":                        21,
		"1.21rc00":                       21,
		"1.9beta2":                       9,
		"1.0beta99":                      0,
		"1.21." + strings.Repeat("0", api.MaxSource): 21,
	} {
		if n, e := ver.Minor(s); e != api.OK || n != want {
			t.Errorf("P4.1: Minor(%.60q): %d, error %d, not %d", s, n, e, want)
		}
	}
	for n := range 100 {
		for _, behind := range []string{"", ".7", "rc1", "beta1"} {
			if got, e := ver.Minor("1." + strconv.Itoa(n) + behind); e != api.OK || got != n {
				t.Errorf("P4.1: Minor(1.%d%s): %d, error %d", n, behind, got, e)
			}
		}
	}
}

// P4.1: what is none.
func TestNoMinor(t *testing.T) {
	for _, s := range []string{
		"", "1", "1.", "1..", "1.21.", "1.21..3", ".21", "21", "2.1", "0.1", "11.2", "01.2", "go1.21", "v1.21", "1,21",
		"1.00", "1.01", "1.021", "1.100", "1.999", "1.1000000000000000000000000", "1.000", "1.0000000000000000000000001",
		"1.-1", "1.+2", "1.-0", "1. 2", " 1.2", "1.2 ", "1.2\n", "1.2\x00", "1.2x", "1.2a", "1.2_0", "1.2_", "1._2", "1.0x1", "1.1e1",
		"1.2.x", "1.2.-3", "1.2.3.4", "1.2.3rc1", "1.2.3-rc1", "1.2.3 ", "1.2.3x", "1.2-rc1",
		"1.2rc", "1.2beta", "1.2rcx", "1.2rc1x", "1.2rc-1", "1.2rc1.1", "1.2rc.1", "1.2RC1", "1.2r1", "1.2c1", "1.2beta1rc1", "1.2rcbeta1", "1.2alpha1", "1.2bet1", "1.2rc1beta2",
		"1.\uff11", "1.\u0661", "1.2.\u0661", "1.2\xff", "\ufeff1.2",
	} {
		if n, e := ver.Minor(s); e != api.ErrVer || n != 0 {
			t.Errorf("P4.1: Minor(%q): %d, error %d", s, n, e)
		}
	}
}

// P4.1: how a version is written.
func TestText(t *testing.T) {
	for n := range 100 {
		if s := ver.Text(n); s != "1."+strconv.Itoa(n) {
			t.Errorf("P4.1: Text(%d): %q", n, s)
		}
	}
	for _, n := range []int{-1, -10, 100, 101, 1 << 40, -1 << 62} {
		if s := ver.Text(n); s != "" {
			t.Errorf("P4.1: Text(%d): %q", n, s)
		}
	}
}

// P4.1: what is a path, and what is none.
func TestPath(t *testing.T) {
	for _, s := range []string{
		"a", "Z", "0", "_", "-", ".", "..", "a/b", "a.b/c-d/e_f", "x-1/_.y", "9/9", "module", "go", "example.com/A-b_c.d/v2", "azAZ09_-.", "./..", "-/-",
		strings.Repeat("a", 200), strings.Repeat("a/", 99) + "aa",
	} {
		if !ver.Path(s) {
			t.Errorf("P4.1: Path(%q)", s)
		}
	}
	for _, s := range []string{
		"", "/", "//", "/a", "a/", "a//b", "a/b/", "//a", "a b", " a", "a ", "a\tb", "a\n", "a\r", "a\\b", "a:b", "a@b", "a+b", "a~b", "a,b", "\"a\"", "a`", "[", "{", "^", "a\x00", "a\xff", "\xff",
		"\u00e4", "a/\u00e4", "a\u0661", "\ufeffa", "\ufffd", "a//", "a/ /b",
		strings.Repeat("a", 201), strings.Repeat("a/", 100) + "a", strings.Repeat("a", 1000), strings.Repeat("/", 200),
	} {
		if ver.Path(s) {
			t.Errorf("P4.1: not Path(%q)", s)
		}
	}
}

// P4.2: what a go.mod says.
func TestRead(t *testing.T) {
	long := strings.Repeat("a", 200)
	for s, want := range map[string]ver.Mod{
		"module a":                                    {Path: "a", Minor: 16},
		"module a\n":                                  {Path: "a", Minor: 16},
		"module a/b\n\ngo 1.22.1 // x\n":              {Path: "a/b", Minor: 22},
		"go 1.0\nmodule a":                            {Path: "a", Minor: 0},
		"module a\ngo 1.99":                           {Path: "a", Minor: 99},
		"module a\ngo 1.16":                           {Path: "a", Minor: 16},
		"module a\ngo 1.21rc2":                        {Path: "a", Minor: 21},
		"module a\ngo 1.9beta1":                       {Path: "a", Minor: 9},
		"\t module\ta \r\n\r\n go\r1.17\r":            {Path: "a", Minor: 17},
		"module \t\r a":                               {Path: "a", Minor: 16},
		"// x\nmodule a// y\n//":                      {Path: "a", Minor: 16},
		"module a//b":                                 {Path: "a", Minor: 16},
		"module a/ //b\nmodule":                       {},
		"module a\n//go 1.2\ngo 1.3//1.4":             {Path: "a", Minor: 3},
		"module a // b // c":                          {Path: "a", Minor: 16},
		"module a // \xff\x00\ufeff":                  {Path: "a", Minor: 16},
		"module a\n\n \n\t\r\n":                       {Path: "a", Minor: 16},
		"module a\ntoolchain go1.24":                  {Path: "a", Minor: 16},
		"module a\ntoolchain x\ntoolchain \u00e4/\"y": {Path: "a", Minor: 16},
		"toolchain default\ngo 1.21\nmodule b":        {Path: "b", Minor: 21},
		"module module\ngo 1.21\ntoolchain go":        {Path: "module", Minor: 21},
		"module go":                                   {Path: "go", Minor: 16},
		"module " + long:                              {Path: long, Minor: 16},
		"module a/b.c-d_e/F/00":                       {Path: "a/b.c-d_e/F/00", Minor: 16},
	} {
		m, e := ver.Read([]byte(s))
		if m != want || (want == ver.Mod{}) != (e == api.ErrMod) || e != api.OK && e != api.ErrMod {
			t.Errorf("P4.2: Read(%q): %v, error %d, not %v", s, m, e, want)
		}
	}
}

// P4.2: what is no go.mod.
func TestNoRead(t *testing.T) {
	for _, s := range []string{
		"", "\n", " ", "// module a", "go 1.2", "toolchain x", "x", "a", "/", "/ module a",
		"module", "module ", "module\na", "module // a", "module a b", "module a /", "module a/", "module /a", "module a/ b", "module \"a\"", "module `a`", "module a;", "modulea", "Module a", "module\va", "module\u00a0a", "module a\u00a0", "module a\x0b", "module a\x00", "module \u00e4", "module a\xff", "\ufeffmodule a",
		"module a\nmodule a", "module a\nmodule b", "module a\ngo 1.2\nmodule a", "module " + strings.Repeat("a", 201),
		"module a\ngo 1.2\ngo 1.2", "module a\ngo 1.2\ngo 1.3", "module a\ngo", "module a\ngo x", "module a\ngo 1", "module a\ngo 1.021", "module a\ngo 1.100", "module a\ngo 2.1", "module a\ngo 1.2 1.3", "module a\ngo1.2", "module a\ngo \"1.2\"", "module a\ngo // 1.2", "module a\ngo 1.2x", "go\nmodule a",
		"module a\ntoolchain", "module a\ntoolchain x y", "module a\ntoolchain // x",
		"module a\nrequire x", "module a\nrequire x v1.0.0", "module a\nrequire (\n)", "module a\nx", "module a\n)", "module a\n/* x */", "module a\ngodebug x=y", "module a\nexclude x", "module a go 1.2", "module a\ngo 1.2 toolchain x", "module a\n\x00", "module a\n\xff", "module a\n \u2028",
	} {
		if m, e := ver.Read([]byte(s)); e != api.ErrMod || m != (ver.Mod{}) {
			t.Errorf("P4.2: Read(%q): %v, error %d", s, m, e)
		}
	}
}

// P4.2: how long a go.mod may be.
func TestLongRead(t *testing.T) {
	full := "module a\ngo 1.20 //"
	full += strings.Repeat("x", api.MaxSource-len(full))
	if m, e := ver.Read([]byte(full)); e != api.OK || m != (ver.Mod{Path: "a", Minor: 20}) {
		t.Errorf("P4.2: %v, error %d", m, e)
	}
	if m, e := ver.Read([]byte("module a" + strings.Repeat("\n", api.MaxSource-8))); e != api.OK || m != (ver.Mod{Path: "a", Minor: 16}) {
		t.Errorf("P4.2: %v, error %d", m, e)
	}
	for _, s := range []string{full + "x", full + "\nx", strings.Repeat("\n", api.MaxSource+1), strings.Repeat("x", api.MaxSource+1)} {
		if m, e := ver.Read([]byte(s)); e != api.ErrLong || m != (ver.Mod{}) {
			t.Errorf("P4.2: %v, error %d", m, e)
		}
	}
	if m, e := ver.Read([]byte(strings.Repeat("x", api.MaxSource))); e != api.ErrMod || m != (ver.Mod{}) {
		t.Errorf("P4.2: %v, error %d", m, e)
	}
}

// R4: what is handed in is neither changed nor kept.
func TestReadKeepsNothing(t *testing.T) {
	b := []byte("module a/b\ngo 1.22\n//")[:18:20]
	m, _ := ver.Read(b)
	if string(b[:20]) != "module a/b\ngo 1.22\n/" {
		t.Errorf("R4: %q", b[:20])
	}
	for i := range b {
		b[i] = 'x'
	}
	if m != (ver.Mod{Path: "a/b", Minor: 22}) {
		t.Errorf("R4: %v", m)
	}
	one, other := ver.Write(m), ver.Write(m)
	one[0] = 'x'
	if string(other) != "module a/b\n\ngo 1.22\n" {
		t.Errorf("R4: %q", other)
	}
}

// P4.2: what is written, and where nothing is.
func TestWrite(t *testing.T) {
	long := strings.Repeat("a", 200)
	for m, want := range map[ver.Mod]string{
		{Path: "a", Minor: 0}:        "module a\n\ngo 1.0\n",
		{Path: "a/b", Minor: 17}:     "module a/b\n\ngo 1.17\n",
		{Path: "x-1/_.y", Minor: 99}: "module x-1/_.y\n\ngo 1.99\n",
		{Path: long, Minor: 16}:      "module " + long + "\n\ngo 1.16\n",
		{Path: long + "a", Minor: 1}: "",
		{Path: "", Minor: 17}:        "",
		{}:                           "",
		{Path: "a", Minor: -1}:       "",
		{Path: "a", Minor: 100}:      "",
		{Path: "a//b", Minor: 17}:    "",
		{Path: "/a", Minor: 17}:      "",
		{Path: "a\n", Minor: 17}:     "",
		{Path: "a b", Minor: 17}:     "",
		{Path: "\u00e4", Minor: 17}:  "",
		{Path: " ", Minor: 100}:      "",
	} {
		if b := ver.Write(m); string(b) != want {
			t.Errorf("P4.2: Write(%v): %q, not %q", m, b, want)
		}
	}
}
