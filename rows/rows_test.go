package rows_test

import (
	"slices"
	"testing"

	"demotic/rows"
)

func TestEach(t *testing.T) {
	for n, want := range [][]string{{""}, {"", "a", "bc"}, {"", "a", "aa", "abc", "bc", "bca", "bcbc"}} {
		var got []string
		rows.Each([]string{"a", "bc"}, n, func(s string) { got = append(got, s) })
		if !slices.Equal(got, want) {
			t.Errorf("Each, %d: %q, not %q", n, got, want)
		}
	}
}

// Bytes of one seed are the same each time, those of seeds beside one another differ from the first one on, and all bytes come.
func TestNoise(t *testing.T) {
	met := map[byte]int{}
	for seed := range 300 {
		b := rows.Noise(seed, 100)
		if !slices.Equal(b, rows.Noise(seed, 100)) || !slices.Equal(b[:7], rows.Noise(seed, 7)) || len(b) != 100 || b[0] == rows.Noise(seed+1, 1)[0] {
			t.Errorf("Noise, %d: %v", seed, b)
		}
		for _, x := range b {
			met[x]++
		}
	}
	if len(met) != 256 || len(rows.Noise(1, 0)) > 0 {
		t.Errorf("Noise: just %d bytes", len(met))
	}
}
