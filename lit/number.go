package lit

import (
	"slices"
	"strings"

	"demotic/api"
)

// number tells what a number's token means.
func number(s string) string {
	base, digits := split(s)
	var figures []byte // the lowest first
	var last rune
	for _, r := range digits {
		if r == '_' {
			need(last != '_', api.ErrLit)
		} else {
			figures = times(figures, base, digit(r, base))
		}
		last = r
	}
	need(last != 0 && last != '_', api.ErrLit)
	return decimal(figures)
}

// split parts what a token begins with from its digits.
func split(s string) (base uint32, digits string) {
	switch {
	case strings.HasPrefix(s, "0x"), strings.HasPrefix(s, "0X"):
		return 16, s[2:]
	case strings.HasPrefix(s, "0b"), strings.HasPrefix(s, "0B"):
		return 2, s[2:]
	case strings.HasPrefix(s, "0o"), strings.HasPrefix(s, "0O"):
		return 8, s[2:]
	case strings.HasPrefix(s, "0") && s != "0":
		return 8, s[1:]
	}
	need(!strings.HasPrefix(s, "_"), api.ErrLit) // the first figure has none ahead of it here
	return 10, s
}

// digit tells what a digit of some base is worth.
func digit(r rune, base uint32) uint32 {
	worth := base
	switch {
	case '0' <= r && r <= '9':
		worth = uint32(r - '0')
	case 'a' <= r && r <= 'f':
		worth = uint32(r-'a') + 10
	case 'A' <= r && r <= 'F':
		worth = uint32(r-'A') + 10
	}
	need(worth < base, api.ErrLit)
	return worth
}

// times tells base times a number, and some more.
func times(figures []byte, base, more uint32) []byte {
	for i, f := range figures {
		more += uint32(f) * base
		figures[i] = byte(more % 10)
		more /= 10
	}
	for ; more > 0; more /= 10 {
		figures = append(figures, byte(more%10))
	}
	return figures
}

// decimal writes a number, the highest figure first.
func decimal(figures []byte) string {
	if len(figures) == 0 {
		return "0"
	}
	for i := range figures {
		figures[i] += '0'
	}
	slices.Reverse(figures)
	return string(figures)
}
