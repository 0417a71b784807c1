package rows_test

import (
	"slices"
	"testing"

	"demotic/rows"
)

func TestEach(t *testing.T) {
	for n, want := range [][]string{{""}, {"", "a", "bc"}, {"", "a", "aa", "abc", "bc", "bca", "bcbc"}} {
		var got []string
		rows.Each([]string{"a", "bc"}, n, func(s string) { got = append(got, s) })
		if !slices.Equal(got, want) {
			t.Errorf("Each, %d: %q, not %q", n, got, want)
		}
	}
}
