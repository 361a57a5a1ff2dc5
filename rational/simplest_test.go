package rational_test

import (
	"math"
	"math/big"
	"testing"

	"wayfinder/api"
	"wayfinder/integer"
	"wayfinder/rational"
)

// P2.1 and P2.5

// firstFound tries the denominators one by one; low is at most high.
func firstFound(low, high *big.Rat) *big.Rat {
	if low.Sign() <= 0 && high.Sign() >= 0 {
		return new(big.Rat)
	}
	if high.Sign() < 0 {
		return new(big.Rat).Neg(firstFound(new(big.Rat).Neg(high), new(big.Rat).Neg(low)))
	}
	for d := int64(1); ; d++ {
		scaled := new(big.Rat).Mul(low, big.NewRat(d, 1))
		n := floorOf(scaled)
		if !scaled.IsInt() {
			n.Add(n, big.NewInt(1))
		}
		x := new(big.Rat).SetFrac(n, big.NewInt(d))
		if x.Cmp(high) <= 0 {
			return x
		}
	}
}

func wantSimplest(t *testing.T, lo, hi api.Rational) {
	t.Helper()
	got, e := rational.Simplest(lo, hi)
	low, high := valueOf(lo), valueOf(hi)
	if low.Cmp(high) > 0 {
		wantError(t, "Simplest", e, api.ErrRange)
		wantNothing(t, "Simplest", got)
		return
	}
	wantError(t, "Simplest", e, api.OK)
	wantRat(t, "Simplest", got, firstFound(low, high))
}

func TestSimplestOfAll(t *testing.T) {
	var l []api.Rational
	for n := -20; n <= 20; n++ {
		for d := 1; d <= 7; d++ {
			l = append(l, over(n, d))
		}
	}
	l = append(l, api.Rational{}, over(5, 0), over(-6, -4), over(6, -4), literal(whole(true, 9, 0), whole(true, 6, 0, 0)))
	for _, lo := range l {
		for _, hi := range l {
			wantSimplest(t, lo, hi)
		}
	}
}

func TestSimplestOfNarrow(t *testing.T) {
	s := sequence(5)
	for range 3000 {
		d := 1 + s.below(4000)
		n := s.below(40000) - 20000
		wantSimplest(t, over(n, d), rational.Add(over(n, d), over(1, 1+s.below(300000))))
	}
}

func TestSimplestExamples(t *testing.T) {
	for _, c := range []struct {
		lo, hi api.Rational
		n, d   int64
	}{
		{over(1, 3), over(3, 7), 1, 3},
		{over(7, 20), over(3, 7), 2, 5},
		{over(-5, 2), over(-1, 2), -1, 1},
		{over(31, 100), over(33, 100), 5, 16},
		{over(-33, 100), over(31, -100), -5, 16},
		{over(1, 2), over(5, 2), 1, 1},
		{over(-3, 1), over(-2, 1), -2, 1},
		{over(2, 1), over(3, 1), 2, 1},
		{over(-7, 2), over(9, 1), 0, 1},
		{over(0, 1), over(1, 9), 0, 1},
		{over(-1, 9), over(4, 0), 0, 1},
		{over(22, 7), over(22, 7), 22, 7},
		{over(44, 14), over(-22, -7), 22, 7},
		{over(314159, 100000), over(314160, 100000), 355, 113},
	} {
		got, e := rational.Simplest(c.lo, c.hi)
		wantError(t, "Simplest", e, api.OK)
		wantOver(t, "Simplest", got, c.n, c.d)
	}
}

func TestSimplestRange(t *testing.T) {
	for _, c := range [][2]api.Rational{
		{over(1, 2), over(1, 3)}, {over(-1, 3), over(-1, 2)}, {over(1, 1), over(-1, 1)}, {over(1, 9), over(1, 0)}, {over(0, 1), over(1, -9)}, {over(3, 1), over(2, 1)}, {over(1, 2), over(-1, 2)},
	} {
		got, e := rational.Simplest(c[0], c[1])
		wantError(t, "Simplest", e, api.ErrRange)
		wantNothing(t, "Simplest", got)
	}
}

// wantLeastDenominator demands that x, which is no integer, is from low to high, and that the nearest fractions with a smaller denominator, on both sides, are not.
// Between these two neighbours, no other fraction has a denominator as small as that of x.
func wantLeastDenominator(t *testing.T, x, low, high *big.Rat) {
	t.Helper()
	n, d := x.Num(), x.Denom()
	// The neighbour on the left is m/k with n*k - m*d = 1.
	k := new(big.Int).ModInverse(n, d)
	m := new(big.Int).Mul(n, k)
	m.Sub(m, big.NewInt(1)).Quo(m, d)
	left := new(big.Rat).SetFrac(m, k)
	right := new(big.Rat).SetFrac(new(big.Int).Sub(n, m), new(big.Int).Sub(d, k))
	if x.Cmp(low) < 0 || x.Cmp(high) > 0 {
		t.Fatalf("%v is not from %v to %v", x, low, high)
	}
	if left.Cmp(low) >= 0 || right.Cmp(high) <= 0 {
		t.Fatalf("%v is not the simplest number from %v to %v", x, low, high)
	}
}

func TestSimplestOfLongNumbers(t *testing.T) {
	s := sequence(6)
	for i := range 60 {
		lo := s.rational(2 + i/3)
		width := literal(integer.Of(1), integer.Abs(s.integer(1+i/2)))
		hi := rational.Add(lo, width)
		got, e := rational.Simplest(lo, hi)
		wantError(t, "Simplest", e, api.OK)
		x := valueOf(got)
		wantRat(t, "Simplest", got, x)
		if !x.IsInt() {
			wantLeastDenominator(t, x, valueOf(lo), valueOf(hi))
		}
		got, e = rational.Simplest(hi, lo)
		wantError(t, "Simplest", e, api.ErrRange)
		wantNothing(t, "Simplest", got)
	}
}

// An interval of one number, with the longest continued fraction for the length of its texts.
func TestSimplestOfOneNumber(t *testing.T) {
	for _, x := range samples() {
		got, e := rational.Simplest(x, rational.Norm(x))
		wantError(t, "Simplest", e, api.OK)
		wantRat(t, "Simplest", got, valueOf(x))
	}
	a, b := big.NewInt(1), big.NewInt(1)
	for range 9000 {
		a, b = b, new(big.Int).Add(a, b)
	}
	x := literal(fromBig(b), fromBig(a))
	got, e := rational.Simplest(x, x)
	wantError(t, "Simplest", e, api.OK)
	wantRat(t, "Simplest", got, valueOf(x))
}

func TestSimplestOfGreatIntegers(t *testing.T) {
	for _, c := range [][2]int{{math.MaxInt - 1, math.MaxInt}, {math.MinInt, math.MinInt + 1}, {math.MinInt, -1 << 40}, {1 << 32, 1 << 33}} {
		got, e := rational.Simplest(over(c[0], 1), over(c[1], 1))
		wantError(t, "Simplest", e, api.OK)
		want := int64(c[0])
		if want < 0 {
			want = int64(c[1])
		}
		wantOver(t, "Simplest", got, want, 1)
	}
}
