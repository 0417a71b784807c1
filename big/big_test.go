package big_test

import (
	"math"
	"strings"
	"testing"

	"demotic/api"
	"demotic/big"
)

// most is the greatest amount that is not wide, least the least one that is.
const (
	most  = "13407807929942597099574024998205846127479365820592393377723561443721764030073546976801874298166903427690031858186486050853753882811946569946433649006084095"
	least = "13407807929942597099574024998205846127479365820592393377723561443721764030073546976801874298166903427690031858186486050853753882811946569946433649006084096"
)

// root is 2 to the power of 256: its square is least.
const root = "115792089237316195423570985008687907853269984665640564039457584007913129639936"

type call = func(a, b string) (string, api.Errno)

// calls are those of P9.1 that tell what comes of two numbers.
func calls() map[string]call {
	return map[string]call{"+": big.Sum, "-": big.Less, "*": big.Times, "/": big.Quotient, "%": big.Rest}
}

// right are numbers at edges.
func right() []string {
	return []string{
		"0", "1", "-1", "2", "-2", "7", "-7", "9", "-9", "10", "-10", "99", "100", "-100",
		"999999999", "1000000000", "-999999999", "-1000000000", "1000000001",
		"999999999999999999", "1000000000000000000", "-999999999999999999", "-1000000000000000000",
		"9223372036854775807", "-9223372036854775808", "18446744073709551616",
		root, "-" + root, most, "-" + most,
		strings.Repeat("9", 154), "-" + strings.Repeat("9", 154), "1" + strings.Repeat("0", 154), "1" + strings.Repeat("0", 153),
	}
}

// wrong are texts that are no right number.
func wrong() []string {
	return []string{
		"", "-", "--", "-0", "--0", "--1", "+1", "+", "00", "01", "-01", "-00", "0-", "1-", "1-1", " 1", "1 ", "- 1", "-1 ", "1\n", "\n", "\x00", "1\x00", "\x001",
		"0x1", "1_0", "1e3", "1.0", "a", "1a", "a1", "/", ":", "1/", "1:", "\u0661", "1\u0661", "\uff11", "\u22121", "\xff", "1\xff", "\xff1",
		least, "-" + least, "2" + most[1:], strings.Repeat("9", 155), "1" + strings.Repeat("0", 155), "-" + strings.Repeat("9", 156),
		strings.Repeat("9", 160), "-" + strings.Repeat("9", 160), strings.Repeat("9", 161), strings.Repeat("1", 200), strings.Repeat("1", 201),
		strings.Repeat("0", 160), strings.Repeat("1", 1<<20), strings.Repeat("-", 1<<20),
	}
}

// P9.1: what is a number, and not wide.
func TestRight(t *testing.T) {
	for _, s := range right() {
		if !big.Right(s) {
			t.Errorf("P9.1: Right(%q)", s)
		}
	}
	for _, s := range wrong() {
		if big.Right(s) {
			t.Errorf("P9.1: Right(%.200q)", s)
		}
	}
}

// P9.1: what comes of two numbers.
func TestTwo(t *testing.T) {
	for _, x := range []struct{ a, do, b, want string }{
		{"-12", "*", "12", "-144"}, {"-7", "/", "2", "-3"}, {"-7", "%", "2", "-1"},
		{"0", "+", "0", "0"}, {"0", "-", "0", "0"}, {"0", "*", "0", "0"},
		{"1", "+", "-1", "0"}, {"-1", "+", "1", "0"}, {"-1", "-", "-1", "0"}, {"5", "-", "5", "0"},
		{"0", "*", "-5", "0"}, {"-5", "*", "0", "0"}, {"0", "-", "5", "-5"}, {"0", "-", "-5", "5"}, {"-5", "+", "0", "-5"},
		{"7", "/", "2", "3"}, {"7", "/", "-2", "-3"}, {"-7", "/", "-2", "3"}, {"7", "%", "2", "1"}, {"7", "%", "-2", "1"}, {"-7", "%", "-2", "-1"},
		{"-6", "/", "2", "-3"}, {"-6", "%", "2", "0"}, {"0", "/", "-3", "0"}, {"0", "%", "-3", "0"}, {"-2", "/", "3", "0"}, {"-2", "%", "3", "-2"}, {"2", "/", "-3", "0"}, {"2", "%", "-3", "2"},
		{"999999999", "+", "1", "1000000000"}, {"1000000000", "-", "1", "999999999"}, {"999999999999999999", "+", "1", "1000000000000000000"}, {"1000000000000000000", "-", "1", "999999999999999999"},
		{"1000000000", "*", "1000000000", "1000000000000000000"}, {"999999999", "*", "999999999", "999999998000000001"},
		{"1000000000000000000", "/", "1000000000", "1000000000"}, {"1000000000000000007", "%", "1000000000", "7"}, {"999999998000000001", "/", "999999999", "999999999"},
		{"1000000000000000000", "/", "1000000000000000001", "0"}, {"1000000000000000000", "%", "1000000000000000001", "1000000000000000000"},
		{most, "+", "0", most}, {most, "-", most, "0"}, {most, "*", "1", most}, {most, "*", "-1", "-" + most}, {most, "/", "-1", "-" + most}, {most, "/", most, "1"}, {most, "%", most, "0"}, {most, "%", "1", "0"},
		{"-" + most, "+", most, "0"}, {most, "/", root, root[:len(root)-1] + "5"}, {most, "%", root, root[:len(root)-1] + "5"},
	} {
		if s, e := calls()[x.do](x.a, x.b); s != x.want || e != api.OK {
			t.Errorf("P9.1: %s %s %s: %q, %d, not %q", x.a, x.do, x.b, s, e, x.want)
		}
	}
}

// P9.1: what comes of two and is wide.
func TestWide(t *testing.T) {
	for _, x := range []struct {
		a, do, b string
		want     api.Errno
	}{
		{most, "+", "1", api.ErrBig}, {"1", "+", most, api.ErrBig}, {"-" + most, "+", "-1", api.ErrBig}, {most, "+", most, api.ErrBig}, {most, "+", "-1", api.OK},
		{most, "-", "-1", api.ErrBig}, {"-" + most, "-", "1", api.ErrBig}, {"-1", "-", most, api.ErrBig}, {"0", "-", most, api.OK}, {"1", "-", most, api.OK}, {"-" + most, "-", most, api.ErrBig},
		{root, "*", root, api.ErrBig}, {root, "*", "-" + root, api.ErrBig}, {root, "*", root[:len(root)-1] + "5", api.OK}, {most, "*", most, api.ErrBig}, {most, "*", "2", api.ErrBig}, {"2", "*", "-" + most, api.ErrBig},
	} {
		s, e := calls()[x.do](x.a, x.b)
		if e != x.want || e == api.ErrBig && s != "" {
			t.Errorf("P9.1: %s %s %s: %q, %d, not %d", x.a, x.do, x.b, s, e, x.want)
		}
	}
}

// P9.1: wrong arguments, ahead of all else.
func TestWrongArguments(t *testing.T) {
	refuses := func(do, a, b string) {
		if s, e := calls()[do](a, b); s != "" || e != api.ErrArg {
			t.Errorf("P9.1: %.200q %s %.200q: %q, %d", a, do, b, s, e)
		}
	}
	for do := range calls() {
		for _, w := range wrong() {
			for _, s := range append(right(), wrong()...) {
				refuses(do, w, s)
				refuses(do, s, w)
			}
		}
	}
	for _, s := range append(right(), wrong()...) {
		refuses("/", s, "0")
		refuses("%", s, "0")
	}
}

// P9.2: which of two is below the other one.
func TestCompare(t *testing.T) {
	rising := []string{
		"-" + most, "-1" + strings.Repeat("0", 154), "-" + strings.Repeat("9", 154), "-" + root, "-10000000000", "-1000000001", "-1000000000", "-999999999", "-10", "-9", "-2", "-1",
		"0", "1", "2", "9", "10", "11", "99", "100", "999999999", "1000000000", "1000000001", "2000000000", "2000000001", "10000000000", root, strings.Repeat("9", 154), "1" + strings.Repeat("0", 154), most,
	}
	for i, a := range rising {
		for j, b := range rising {
			want := 0
			switch {
			case i < j:
				want = -1
			case i > j:
				want = 1
			}
			if n := big.Compare(a, b); n != want {
				t.Errorf("P9.2: Compare(%q, %q): %d, not %d", a, b, n, want)
			}
		}
	}
	for _, w := range wrong() {
		for _, s := range append(right(), wrong()...) {
			if big.Compare(w, s) != 0 || big.Compare(s, w) != 0 {
				t.Errorf("P9.2: Compare of %.200q and %.200q", w, s)
			}
		}
	}
}

// P9.2: numbers as ints, and back.
func TestInt(t *testing.T) {
	for s, want := range map[string]int{
		"0": 0, "1": 1, "-1": -1, "10": 10, "-10": -10, "999999999": 999999999, "1000000000": 1000000000, "-4294967296": -4294967296,
		"9223372036854775807": math.MaxInt64, "-9223372036854775808": math.MinInt64, "9223372036854775806": math.MaxInt64 - 1, "-9223372036854775807": math.MinInt64 + 1,
	} {
		if n, e := big.Int(s); n != want || e != api.OK {
			t.Errorf("P9.2: Int(%q): %d, %d, not %d", s, n, e, want)
		}
		if x := big.Text(want); x != s {
			t.Errorf("P9.2: Text(%d): %q, not %q", want, x, s)
		}
	}
	for _, s := range []string{"9223372036854775808", "-9223372036854775809", "10000000000000000000", "18446744073709551616", "-18446744073709551616", root, most, "-" + most} {
		if n, e := big.Int(s); n != 0 || e != api.ErrBig {
			t.Errorf("P9.2: Int(%q): %d, %d", s, n, e)
		}
	}
	for _, s := range wrong() {
		if n, e := big.Int(s); n != 0 || e != api.ErrArg {
			t.Errorf("P9.2: Int(%.200q): %d, %d", s, n, e)
		}
	}
}
