package big_test

import (
	stdbig "math/big"
	"strconv"
	"strings"
	"testing"

	"demotic/api"
	"demotic/big"
	"demotic/rows"
)

// number is what a text means, by Go's own numbers, if it is a right one by the chapter's words.
func number(s string) (*stdbig.Int, bool) {
	figures := strings.TrimPrefix(s, "-")
	if figures == "" || len(figures) > 160 || figures[0] == '0' && s != "0" || strings.Trim(figures, "0123456789") != "" {
		return nil, false
	}
	n, ok := new(stdbig.Int).SetString(s, 10)
	return n, ok && n.BitLen() <= api.MaxBits
}

// expected is what P9.1 asks for, by Go's own numbers.
func expected(do, a, b string) (string, api.Errno) {
	x, okX := number(a)
	y, okY := number(b)
	if !okX || !okY || strings.Contains("/%", do) && y.Sign() == 0 {
		return "", api.ErrArg
	}
	out := new(stdbig.Int)
	switch do {
	case "+":
		out.Add(x, y)
	case "-":
		out.Sub(x, y)
	case "*":
		out.Mul(x, y)
	case "/":
		out.Quo(x, y)
	case "%":
		out.Rem(x, y)
	}
	if out.BitLen() > api.MaxBits {
		return "", api.ErrBig
	}
	return out.String(), api.OK
}

// likeOne holds what is told of a text against Go's own numbers.
func likeOne(t *testing.T, s string) {
	x, ok := number(s)
	if big.Right(s) != ok {
		t.Fatalf("P9.1: Right(%q): %t", s, !ok)
	}
	n, e := big.Int(s)
	switch {
	case !ok:
		if n != 0 || e != api.ErrArg {
			t.Fatalf("P9.2: Int(%q): %d, %d", s, n, e)
		}
	case !x.IsInt64():
		if n != 0 || e != api.ErrBig {
			t.Fatalf("P9.2: Int(%q): %d, %d", s, n, e)
		}
	case int64(n) != x.Int64() || e != api.OK || big.Text(n) != s:
		t.Fatalf("P9.2: Int(%q): %d, %d, and back: %q", s, n, e, big.Text(n))
	}
}

// likeTwo holds what is told of two texts against Go's own numbers.
func likeTwo(t *testing.T, a, b string) {
	for do, of := range calls() {
		s, e := of(a, b)
		if want, err := expected(do, a, b); s != want || e != err {
			t.Fatalf("P9.1: %s %s %s: %q, %d, not %q, %d", a, do, b, s, e, want, err)
		}
	}
	x, okX := number(a)
	y, okY := number(b)
	want := 0
	if okX && okY {
		want = x.Cmp(y)
	}
	if n := big.Compare(a, b); n != want {
		t.Fatalf("P9.2: Compare(%q, %q): %d, not %d", a, b, n, want)
	}
}

// P9.1, P9.2: all short texts of a few signs.
func TestAllShort(t *testing.T) {
	rows.Each([]string{"-", "0", "1", "9", " ", "\u0661"}, 5, func(s string) { likeOne(t, s) })
	var two []string
	rows.Each([]string{"-", "0", "1", "9"}, 3, func(s string) { two = append(two, s) })
	for _, a := range two {
		for _, b := range two {
			likeTwo(t, a, b)
		}
	}
	for a := -40; a <= 40; a++ {
		for b := -40; b <= 40; b++ {
			likeTwo(t, strconv.Itoa(a), strconv.Itoa(b))
		}
	}
	for _, a := range append(right(), wrong()...) {
		likeOne(t, a)
		for _, b := range right() {
			likeTwo(t, a, b)
		}
	}
}

// groups are nine figures each, at the edges of what a place may hold, whatever it holds.
func groups() []string {
	return []string{"000000000", "000000001", "499999999", "500000000", "500000001", "999999998", "999999999"}
}

// P9.1: all short rows of groups of figures by one another: quotients that are easily guessed wrong.
func TestAllGroups(t *testing.T) {
	var all []string
	rows.Each(groups(), 3, func(s string) {
		if s = strings.TrimLeft(s, "0"); s != "" {
			all = append(all, s)
		}
	})
	for i, a := range all {
		for j, b := range all {
			if i%4 == j%4 || len(b) <= 18 && len(a) <= 18 {
				likeTwo(t, a, b)
			}
		}
	}
}

// grown is a right number of some bytes: figures, or groups, or powers of two and their neighbours.
func grown(b []byte) string {
	if len(b) == 0 {
		return "0"
	}
	x := new(stdbig.Int)
	switch b[0] % 4 {
	case 0:
		x.SetBytes(b[1:])
	case 1:
		for _, c := range b[1:] {
			g, _ := strconv.Atoi(groups()[int(c)%len(groups())])
			x.Add(x.Mul(x, stdbig.NewInt(1000000000)), stdbig.NewInt(int64(g)))
		}
	case 2:
		for _, c := range b[1:] {
			x.Lsh(x.Add(x, stdbig.NewInt(int64(c%5)-2)), uint(c/8))
		}
	case 3:
		for _, c := range b[1:] {
			x.Add(x.Mul(x, stdbig.NewInt(10)), stdbig.NewInt(int64(c%3)/2*9))
		}
	}
	x.Rem(x, new(stdbig.Int).Lsh(stdbig.NewInt(1), api.MaxBits))
	if b[0]&64 != 0 {
		x.Neg(x)
	}
	return x.String()
}

// P9.1, P9.2: numbers of all lengths.
func TestNoise(t *testing.T) {
	for seed := range 40000 {
		b := rows.Noise(seed, 2+seed%150)
		cut := int(b[0]) % len(b)
		a, c := grown(b[:cut]), grown(b[cut:])
		likeTwo(t, a, c)
		likeOne(t, a)
	}
}

// undone checks P9.3 of three numbers.
func undone(t *testing.T, a, b, c string) {
	same := func(what, x string, e api.Errno, y string, f api.Errno) {
		if e == api.OK && f == api.OK && x != y {
			t.Fatalf("P9.3: %s, of %s, %s, %s: %s and %s", what, a, b, c, x, y)
		}
	}
	two := func(one, other call, x, y, z string) (string, api.Errno) { // (x one y) other z
		s, e := one(x, y)
		if e != api.OK {
			return "", e
		}
		return other(s, z)
	}
	for what, do := range map[string]call{"sums": big.Sum, "products": big.Times} {
		x, e := do(a, b)
		y, f := do(b, a)
		same("turned "+what, x, e, y, f)
		x, e = two(do, do, a, b, c)
		y, f = two(do, do, b, c, a)
		same(what+" in another order", x, e, y, f)
	}
	x, e := two(big.Sum, big.Less, a, b, b)
	same("a sum undone", x, e, a, api.OK)
	x, e = two(big.Less, big.Sum, a, b, b)
	same("a difference undone", x, e, a, api.OK)
	if x, e = two(big.Times, big.Quotient, a, b, b); b != "0" {
		same("a product undone", x, e, a, api.OK)
	}
	if rest, f := big.Rest(a, b); f == api.OK {
		x, _ = two(big.Quotient, big.Times, a, b, b)
		if x, e = big.Sum(x, rest); x != a || e != api.OK {
			t.Fatalf("P9.3: a quotient and a rest, of %s, %s: %s, %d", a, b, x, e)
		}
	}
	left, e := two(big.Sum, big.Times, a, b, c)
	x, f := big.Times(a, c)
	y, g := big.Times(b, c)
	if max(f, g) == api.OK {
		x, f = big.Sum(x, y)
		same("a product of a sum", left, e, x, f)
	}
}

// P9.3: sums and products in whatever order, and undone.
func TestUndone(t *testing.T) {
	for _, a := range right() {
		for _, b := range right() {
			for _, c := range right() {
				undone(t, a, b, c)
			}
		}
	}
	for seed := range 20000 {
		b := rows.Noise(seed, 3+seed%90)
		undone(t, grown(b[:len(b)/3]), grown(b[len(b)/3:len(b)*2/3]), grown(b[len(b)*2/3:]))
	}
}

// FuzzBig looks for texts that are told otherwise than by Go's own numbers.
func FuzzBig(f *testing.F) {
	for _, a := range append(right(), wrong()...) {
		if len(a) < 300 {
			f.Add(a, "7", []byte(a))
			f.Add("-"+most, a, []byte("\x01abc"))
		}
	}
	f.Fuzz(func(t *testing.T, a, b string, c []byte) {
		likeOne(t, a)
		likeTwo(t, a, b)
		x, y := grown(c[:len(c)/2]), grown(c[len(c)/2:])
		likeTwo(t, x, y)
		undone(t, a, x, y)
	})
}
