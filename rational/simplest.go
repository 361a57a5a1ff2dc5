package rational

import (
	"wayfinder/api"
	"wayfinder/integer"
)

// Simplest returns, of the numbers from lo to hi, the one with the least denominator, of several the one with the least magnitude; ErrRange if lo is greater than hi.
func Simplest(lo, hi Rational) (Rational, Errno) {
	switch {
	case Cmp(lo, hi) > 0:
		return Rational{}, api.ErrRange
	case Sign(lo) > 0:
		return simplestAbove0(lo, hi), api.OK
	case Sign(hi) < 0:
		return Neg(simplestAbove0(Neg(hi), Neg(lo))), api.OK
	}
	return Of(0, 1), api.OK
}

// simplestAbove0 is Simplest for 0 < lo <= hi.
// It follows the continued fractions of lo and hi as long as they agree: if no integer lies between them, the number is w + 1/x, where w is floor(lo) and x the simplest number from 1/(hi - w) to 1/(lo - w).
func simplestAbove0(lo, hi Rational) Rational {
	a, b := fraction(lo)
	c, d := fraction(hi)
	f := continued{p: integer.Of(1), s: integer.Of(1)}
	for {
		w, rest, _ := integer.DivMod(a, b)
		above, restAbove, _ := integer.DivMod(c, d)
		if integer.Sign(rest) == 0 {
			return f.with(w).value()
		}
		if integer.Cmp(w, above) < 0 {
			return f.with(integer.Add(w, integer.Of(1))).value()
		}
		f = f.with(w)
		a, b, c, d = d, restAbove, b, rest
	}
}

// continued is a continued fraction that may go on: followed by a number x, it is (p*x + r) / (q*x + s).
type continued struct {
	p, q, r, s Int
}

// with appends w to the continued fraction.
func (f continued) with(w Int) continued {
	return continued{
		p: integer.Add(integer.Mul(f.p, w), f.r),
		q: integer.Add(integer.Mul(f.q, w), f.s),
		r: f.p,
		s: f.q,
	}
}

// value is the continued fraction if nothing follows.
func (f continued) value() Rational {
	return New(f.p, f.q)
}
