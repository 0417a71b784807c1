package big

import (
	"strconv"
	"strings"
)

// number is an amount, and whether it is below 0 (of which 0 says nothing).
type number struct {
	below  bool
	amount row
}

// read takes a right number in.
func read(s string) number {
	figures := amountOf(s)
	out := make(row, (len(figures)+placeFigures-1)/placeFigures)
	for i, r := range figures {
		at := (len(figures) - 1 - i) / placeFigures
		out[at] = out[at]*10 + int(r-'0')
	}
	return number{figures != s, out.trimmed()}
}

// text writes a number.
func (n number) text() string {
	if len(n.amount) == 0 {
		return "0"
	}
	var out strings.Builder
	if n.below {
		out.WriteByte('-')
	}
	for i := range len(n.amount) {
		s := strconv.Itoa(n.amount[len(n.amount)-1-i])
		if i > 0 { // behind the first place each one has all its figures
			out.WriteString(strings.Repeat("0", placeFigures-len(s)))
		}
		out.WriteString(s)
	}
	return out.String()
}

// sign is -1, 0 or 1.
func (n number) sign() int {
	switch {
	case len(n.amount) == 0:
		return 0
	case n.below:
		return -1
	}
	return 1
}

func (n number) opposite() number { return number{!n.below, n.amount} }

func (n number) plus(m number) number {
	switch {
	case n.below == m.below:
		return number{n.below, n.amount.plus(m.amount)}
	case n.amount.compare(m.amount) < 0:
		return number{m.below, m.amount.without(n.amount)}
	}
	return number{n.below, n.amount.without(m.amount)}
}

func (n number) times(m number) number {
	return number{n.below != m.below, n.amount.times(m.amount)}
}

// by is the quotient.
func (n number) by(m number) number {
	return number{n.below != m.below, n.amount.by(m.amount)}
}
