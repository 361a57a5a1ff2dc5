package segment

import "wayfinder/heading"

// maxDistance is the greatest distance that may be given.
const maxDistance = 1 << 16

// span is the numbers from in to out, both at least 0. The fractions need not be in lowest terms, and out may be 1/0, which is greater than every number.
type span struct {
	in, out Fraction
}

// less reports whether a is less than b.
func less(a, b Fraction) bool {
	return a.N*b.D < b.N*a.D
}

// cut returns the numbers t of s for which t*x is from lo to hi, and whether there are any.
func cut(s span, x, lo, hi int) (span, bool) {
	if x == 0 {
		return s, lo <= 0 && hi >= 0
	}
	if x < 0 {
		x, lo, hi = -x, -hi, -lo
	}
	if first := (Fraction{N: lo, D: x}); less(s.in, first) {
		s.in = first
	}
	if last := (Fraction{N: hi, D: x}); less(last, s.out) {
		s.out = last
	}
	return s, !less(s.out, s.in)
}

// passage returns the numbers t >= 0 for which p + t*(x, y) is in r, and whether there are any.
func passage(p Point, x, y int, r Rect) (span, bool) {
	s := span{in: Fraction{N: 0, D: 1}, out: Fraction{N: 1, D: 0}}
	s, ok := cut(s, x, r.X0-p.X, r.X1-p.X)
	if !ok {
		return span{}, false
	}
	return cut(s, y, r.Y0-p.Y, r.Y1-p.Y)
}

// visit returns the distances at which the ray is in r, each divided by v.D, and true; false if there are none or an argument is not valid.
// Without the factor v.D, numerators are at most 2^22 and denominators at most 2^26: no product of two of them wraps around.
func visit(p Point, v Vector, r Rect) (span, bool) {
	if !validPoint(p) || !heading.Valid(v) || !ValidRect(r) {
		return span{}, false
	}
	return passage(p, v.X, v.Y, r)
}

// distance returns t times d in lowest terms; t is at least 0 and not 1/0, d is above 0.
func distance(t Fraction, d int) Fraction {
	n := t.N * d
	f := commonFactor(t.D, n)
	return Fraction{N: n / f, D: t.D / f}
}

// commonFactor returns the greatest common factor of a and b; a is above 0, and b is not negative.
func commonFactor(a, b int) int {
	for b != 0 {
		a, b = b, a%b
	}
	return a
}

// Enter returns the least distance at which the ray is in r, and true; zero and false if there is none or an argument is not valid.
func Enter(p Point, v Vector, r Rect) (Fraction, bool) {
	s, ok := visit(p, v, r)
	if !ok {
		return Fraction{}, false
	}
	return distance(s.in, v.D), true
}

// Leave returns the greatest distance at which the ray is in r, and true; zero and false if there is none or an argument is not valid.
func Leave(p Point, v Vector, r Rect) (Fraction, bool) {
	s, ok := visit(p, v, r)
	if !ok {
		return Fraction{}, false
	}
	return distance(s.out, v.D), true
}

// Meets reports whether all arguments are valid and the ray is in r at some distance from lo to hi.
func Meets(p Point, v Vector, lo, hi int, r Rect) bool {
	if lo < 0 || lo > hi || hi > maxDistance {
		return false
	}
	s, ok := visit(p, v, r)
	return ok && !less(Fraction{N: hi, D: v.D}, s.in) && !less(s.out, Fraction{N: lo, D: v.D})
}

// Before reports whether all arguments are valid and the ray is in r at some distance that is less than hi.
func Before(p Point, v Vector, hi int, r Rect) bool {
	if hi < 0 || hi > maxDistance {
		return false
	}
	s, ok := visit(p, v, r)
	return ok && less(s.in, Fraction{N: hi, D: v.D})
}
