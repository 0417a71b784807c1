package big

import "cmp"

const (
	// placeFigures is how many decimal figures a place of a row has.
	placeFigures = 9

	// base is what a place is below. Its square is an int.
	base = 1_000_000_000
)

// row is an amount, from the last place on; its first one is not 0 where it is trimmed.
type row []int

// trimmed cuts noughts off that stand ahead.
func (a row) trimmed() row {
	n := len(a)
	for n > 0 && a[n-1] == 0 {
		n--
	}
	return a[:n:n]
}

// window is n places of a row from one on, of which none can grow into what stands ahead.
func (a row) window(from, n int) row { return a[from : from+n : from+n] }

// wider is the row with one place more.
func (a row) wider() row {
	out := make(row, len(a)+1)
	copy(out, a)
	return out
}

func (a row) compare(b row) int {
	order := cmp.Compare(len(a), len(b))
	for i := range len(a) {
		if order == 0 {
			order = cmp.Compare(a[len(a)-1-i], b[len(b)-1-i])
		}
	}
	return order
}

func (a row) plus(b row) row {
	if len(a) < len(b) {
		a, b = b, a
	}
	out := a.wider()
	out.add(b, 1)
	return out.trimmed()
}

// without is a less b, which is not greater.
func (a row) without(b row) row {
	out := a.wider()
	out.take(b, 1)
	return out.trimmed()
}

func (a row) times(b row) row {
	out := make(row, len(a)+len(b))
	for i, f := range a {
		out.window(i, len(b)+1).add(b, f)
	}
	return out.trimmed()
}

// by is the quotient by a row that is not 0, place by place from the first one on. Both are made greater by one factor ahead of it, so that the divisor's first place is at least half of the base: what a place is guessed to be is then never too little, and at most a few too much.
func (a row) by(b row) row {
	n := len(b)
	factor := row{base / (b[n-1] + 1)}
	rest, b := a.times(factor).wider(), b.times(factor)
	out := make(row, max(0, len(rest)-n))
	for i := range len(out) {
		at := len(out) - 1 - i
		part := rest.window(at, n+1)
		guess := (part[n]*base + part[n-1]) / b[n-1]
		part.take(b, guess)
		for part[n] < 0 {
			part.add(b, 1)
			guess--
		}
		out[at] = guess
	}
	return out.trimmed()
}

// add puts f times b onto a row that is longer than b; what goes beyond a place goes on to the next one, and stays at the last one.
func (a row) add(b row, f int) {
	last, over := len(a)-1, 0
	for i := range last {
		if i < len(b) {
			over += f * b[i]
		}
		over += a[i]
		a[i] = over % base
		over /= base
	}
	a[last] += over
}

// take takes f times b off, as add puts it on; the last place is below 0 if it was too much.
func (a row) take(b row, f int) {
	last, under := len(a)-1, 0
	for i := range last {
		if i < len(b) {
			under += f * b[i]
		}
		a[i] -= under % base
		under /= base
		if a[i] < 0 {
			a[i] += base
			under++
		}
	}
	a[last] -= under
}
