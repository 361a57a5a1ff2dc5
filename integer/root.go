package integer

import "math/bits"

// root returns the greatest integer whose square is at most w.
func root(w []uint32) []uint32 {
	if len(w) <= 2 {
		return words(rootSmall(number(w)))
	}
	// The root of the upper half of the digits, made one greater, is above the root of all of them, and near it.
	half := length(w) / 4
	s := raise(sum(root(lower(w, 2*half)), words(1)), half)
	for {
		// Newton's steps fall from above the root until they have reached it.
		q, _ := divide(w, s)
		t := lower(sum(s, q), 1)
		if compare(t, s) >= 0 {
			return s
		}
		s = t
	}
}

// rootSmall takes Newton's steps from a power of 2 that is not below the root.
func rootSmall(n uint64) uint64 {
	if n == 0 {
		return 0
	}
	s := uint64(1) << ((bits.Len64(n) + 1) / 2)
	for {
		t := (s + n/s) / 2
		if t >= s {
			return s
		}
		s = t
	}
}
