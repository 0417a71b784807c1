// Package rows makes texts and bytes for tests: what holds of all of something is tried with all short ones, and with long ones of many looks.
package rows

// Each does a thing with all rows of at most n of the parts.
func Each(parts []string, n int, do func(s string)) { behind("", parts, n, do) }

// behind does it with a row, and with all that go on with at most n more parts.
func behind(s string, parts []string, n int, do func(s string)) {
	do(s)
	for _, p := range parts {
		if n > 0 {
			behind(s+p, parts, n-1, do)
		}
	}
}

// Noise tells bytes that look like chance, the same ones each time.
func Noise(seed, size int) []byte {
	x := uint32(seed) * 2654435761 // seeds beside one another are to look different from the first byte on
	b := make([]byte, size)
	for i := range b {
		x = x*1664525 + 1013904223
		b[i] = byte(x >> 24)
	}
	return b
}
