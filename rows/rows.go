// Package rows makes texts for tests: what holds of all of something is tried with all short ones.
package rows

// Each does a thing with all rows of at most n of the parts.
func Each(parts []string, n int, do func(s string)) { behind("", parts, n, do) }

// behind does it with a row, and with all that go on with at most n more parts.
func behind(s string, parts []string, n int, do func(s string)) {
	do(s)
	for _, p := range parts {
		if n > 0 {
			behind(s+p, parts, n-1, do)
		}
	}
}
