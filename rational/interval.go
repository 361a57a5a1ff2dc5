package rational

import (
	"slices"

	"wayfinder/api"
)

// Plus returns the interval of all sums of a number of a and one of b; ErrRange if there are none.
func Plus(a, b Interval) (Interval, Errno) {
	if isEmpty(a) || isEmpty(b) {
		return Interval{}, api.ErrRange
	}
	return Interval{Lo: Add(a.Lo, b.Lo), Hi: Add(a.Hi, b.Hi)}, api.OK
}

// Times returns the least interval that contains all products of a number of a and one of b; ErrRange if there are none.
func Times(a, b Interval) (Interval, Errno) {
	if isEmpty(a) || isEmpty(b) {
		return Interval{}, api.ErrRange
	}
	ends := []Rational{Mul(a.Lo, b.Lo), Mul(a.Lo, b.Hi), Mul(a.Hi, b.Lo), Mul(a.Hi, b.Hi)}
	// If all products are equal, both ends are the same one: Norm gives Hi memory of its own.
	return Interval{Lo: slices.MinFunc(ends, Cmp), Hi: Norm(slices.MaxFunc(ends, Cmp))}, api.OK
}

// Has reports whether x is in a.
func Has(a Interval, x Rational) bool {
	return Cmp(a.Lo, x) <= 0 && Cmp(x, a.Hi) <= 0
}

// Meet returns the interval of all numbers that are in both a and b, and true; false if there are none.
func Meet(a, b Interval) (Interval, bool) {
	both := Interval{Lo: greater(a.Lo, b.Lo), Hi: lesser(a.Hi, b.Hi)}
	if isEmpty(both) {
		return Interval{}, false
	}
	return both, true
}

func isEmpty(a Interval) bool {
	return Cmp(a.Lo, a.Hi) > 0
}

// greater returns the canonical form of the greater one.
func greater(a, b Rational) Rational {
	if Cmp(a, b) > 0 {
		return Norm(a)
	}
	return Norm(b)
}

// lesser returns the canonical form of the lesser one.
func lesser(a, b Rational) Rational {
	if Cmp(a, b) < 0 {
		return Norm(a)
	}
	return Norm(b)
}
