package integer

// common returns the greatest common divisor of a and b, which may be a or b itself.
func common(a, b []uint32) []uint32 {
	if compare(a, b) < 0 {
		a, b = b, a
	}
	for len(b) > 2 {
		a, b = closer(a, b)
	}
	if len(b) == 0 {
		return a
	}
	_, r := divide(a, b)
	return words(commonSmall(number(b), number(r)))
}

// commonSmall is Euclid's algorithm.
func commonSmall(a, b uint64) uint64 {
	for b != 0 {
		a, b = b, a%b
	}
	return a
}

// closer takes at least one step of Euclid's algorithm, where a >= b and b has at least three words.
func closer(a, b []uint32) ([]uint32, []uint32) {
	s := foresee(a, b)
	if s.ab == 0 {
		_, r := divide(a, b)
		return b, r
	}
	return mix(s.aa, a, s.ab, b), mix(s.ba, a, s.bb, b)
}

// steps stands for steps of Euclid's algorithm: they lead from a and b to aa*a + ab*b and ba*a + bb*b.
type steps struct {
	aa, ab, ba, bb int64
}

// foreseen is how many binary digits of the numbers decide on their first steps.
// While the two quotients in foresee agree, the numbers in steps stay below the root of 2^foreseen, so that mix does not overflow.
const foreseen = 62

// foresee finds, with Lehmer's method, first steps that the highest digits of a and b determine.
// Long numbers need many steps, and these ones together need only one pass over the words.
func foresee(a, b []uint32) steps {
	low := length(a) - foreseen
	x, y := cut(a, low), cut(b, low)
	s := steps{aa: 1, bb: 1}
	for y+s.ba != 0 && y+s.bb != 0 {
		// The true quotient lies between these two, as the digits that are cut off may be anything.
		t := (x + s.aa) / (y + s.ba)
		if t != (x+s.ab)/(y+s.bb) {
			break
		}
		s = steps{s.ba, s.bb, s.aa - t*s.ba, s.ab - t*s.bb}
		x, y = y, x-t*y
	}
	return s
}

// cut returns floor(w / 2^n), which fits.
func cut(w []uint32, n int) int64 {
	whole, part := n/wordBits, n%wordBits
	if whole >= len(w) {
		return 0
	}
	x := uint64(w[whole]) >> part
	for i, y := range w[whole+1:] {
		x |= uint64(y) << (wordBits*(i+1) - part)
	}
	return int64(x)
}

// mix returns m*a + n*b, where b is at most a, m and n are not of the same sign, and the result is from 0 to a.
func mix(m int64, a []uint32, n int64, b []uint32) []uint32 {
	w := make([]uint32, len(a))
	carry := int64(0)
	for i, x := range a {
		y := uint32(0)
		if i < len(b) {
			y = b[i]
		}
		carry += m*int64(x) + n*int64(y)
		w[i] = uint32(carry)
		carry >>= wordBits
	}
	return trim(w)
}
