// Package integer is layer 1, integers of any length: see shared/doc/01-integer.md.
package integer

import (
	"math"
	"slices"

	"wayfinder/api"
)

// The types of package api that this layer uses.
type (
	Errno = api.Errno
	Int   = api.Int
)

// signed makes an Int of a sign and a magnitude that nothing else refers to.
// Every Int that this package returns is made here, so that all are canonical.
func signed(negative bool, w []uint32) Int {
	w = trim(w)
	if len(w) == 0 {
		return Int{}
	}
	return Int{Neg: negative, Mag: w}
}

// Of returns the Int with the value n.
func Of(n int) Int {
	m := uint64(n)
	if n < 0 {
		// In uint64, the magnitude of the least int does not overflow.
		m = -m
	}
	return signed(n < 0, words(m))
}

// Small returns the value of x and true, if it fits into an int; otherwise 0 and false.
func Small(x Int) (int, bool) {
	w := trim(x.Mag)
	if len(w) > 2 {
		return 0, false
	}
	m := number(w)
	if !x.Neg {
		if m > math.MaxInt {
			return 0, false
		}
		return int(m), true
	}
	if m > math.MaxInt+1 {
		return 0, false
	}
	return int(-m), true
}

// Norm returns the canonical form of x.
func Norm(x Int) Int {
	return signed(x.Neg, slices.Clone(trim(x.Mag)))
}

// Sign returns -1, 0 or 1 for a value below, equal to or above 0.
func Sign(x Int) int {
	switch {
	case len(trim(x.Mag)) == 0:
		return 0
	case x.Neg:
		return -1
	}
	return 1
}

// Cmp returns the Sign of a - b.
func Cmp(a, b Int) int {
	s, t := Sign(a), Sign(b)
	switch {
	case s < t:
		return -1
	case s > t:
		return 1
	}
	return s * compare(trim(a.Mag), trim(b.Mag))
}

// Neg returns -x.
func Neg(x Int) Int {
	return signed(!x.Neg, slices.Clone(trim(x.Mag)))
}

// Abs returns the absolute value of x.
func Abs(x Int) Int {
	return signed(false, slices.Clone(trim(x.Mag)))
}

// Add returns a + b.
func Add(a, b Int) Int {
	v, w := trim(a.Mag), trim(b.Mag)
	switch {
	case a.Neg == b.Neg:
		return signed(a.Neg, sum(v, w))
	case compare(v, w) >= 0:
		return signed(a.Neg, difference(v, w))
	}
	return signed(b.Neg, difference(w, v))
}

// Sub returns a - b.
func Sub(a, b Int) Int {
	return Add(a, Int{Neg: !b.Neg, Mag: b.Mag})
}

// Mul returns the product of a and b.
func Mul(a, b Int) Int {
	return signed(a.Neg != b.Neg, product(trim(a.Mag), trim(b.Mag)))
}

// DivMod returns the quotient and the remainder, which is never negative, of a and b; ErrSingular if b is 0.
func DivMod(a, b Int) (Int, Int, Errno) {
	d := trim(b.Mag)
	if len(d) == 0 {
		return Int{}, Int{}, api.ErrSingular
	}
	q, r := divide(trim(a.Mag), d)
	if a.Neg && len(r) > 0 {
		q, r = sum(q, words(1)), difference(d, r)
	}
	return signed(a.Neg != b.Neg, q), signed(false, r), api.OK
}

// Gcd returns the greatest common divisor of a and b; 0 if both are 0.
func Gcd(a, b Int) Int {
	return signed(false, slices.Clone(common(trim(a.Mag), trim(b.Mag))))
}

// Bits returns the number of binary digits of the absolute value of x; 0 for 0.
func Bits(x Int) int {
	return length(trim(x.Mag))
}

// Sqrt returns the greatest integer whose square is at most x; ErrRange if x is negative.
func Sqrt(x Int) (Int, Errno) {
	if Sign(x) < 0 {
		return Int{}, api.ErrRange
	}
	return signed(false, root(trim(x.Mag))), api.OK
}
