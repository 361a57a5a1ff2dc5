package rational_test

import (
	"math"
	"math/big"
	"slices"
	"testing"

	"wayfinder/api"
	"wayfinder/integer"
	"wayfinder/rational"
)

// whole makes an Int as it is written, canonical or not.
func whole(negative bool, mag ...uint32) api.Int {
	return api.Int{Neg: negative, Mag: mag}
}

// literal makes a Rational as it is written, canonical or not.
func literal(n, d api.Int) api.Rational {
	return api.Rational{Num: n, Den: d}
}

// over makes n/d as it is written, with Den below 0 or equal to 0 if d is.
func over(n, d int) api.Rational {
	return literal(integer.Of(n), integer.Of(d))
}

func interval(lo, hi api.Rational) api.Interval {
	return api.Interval{Lo: lo, Hi: hi}
}

// bigInt calculates the value of an Int by its definition, independently of the program.
func bigInt(x api.Int) *big.Int {
	v := new(big.Int)
	for _, w := range slices.Backward(x.Mag) {
		v.Lsh(v, 32).Or(v, big.NewInt(int64(w)))
	}
	if x.Neg {
		v.Neg(v)
	}
	return v
}

// valueOf calculates the number by its definition, independently of the program.
func valueOf(x api.Rational) *big.Rat {
	d := bigInt(x.Den)
	if d.Sign() == 0 {
		return new(big.Rat)
	}
	return new(big.Rat).SetFrac(bigInt(x.Num), d)
}

// fromBig makes the Int with the value v.
func fromBig(v *big.Int) api.Int {
	x := api.Int{Neg: v.Sign() < 0}
	rest := new(big.Int).Abs(v)
	for rest.Sign() > 0 {
		x.Mag = append(x.Mag, uint32(rest.Uint64()))
		rest.Rsh(rest, 32)
	}
	return x
}

func canonicalInt(x api.Int) bool {
	n := len(x.Mag)
	if n == 0 {
		return !x.Neg
	}
	return x.Mag[n-1] != 0
}

func isCanonical(x api.Rational) bool {
	if !canonicalInt(x.Num) || !canonicalInt(x.Den) {
		return false
	}
	n, d := bigInt(x.Num), bigInt(x.Den)
	common := new(big.Int).GCD(nil, nil, new(big.Int).Abs(n), d)
	return d.Sign() > 0 && common.Cmp(big.NewInt(1)) == 0
}

func wantRat(t *testing.T, what string, got api.Rational, want *big.Rat) {
	t.Helper()
	if !isCanonical(got) {
		t.Fatalf("%s: %v is not canonical", what, got)
	}
	if valueOf(got).Cmp(want) != 0 {
		t.Fatalf("%s: got %v, want %v", what, valueOf(got), want)
	}
}

func wantOver(t *testing.T, what string, got api.Rational, n, d int64) {
	t.Helper()
	wantRat(t, what, got, big.NewRat(n, d))
}

func wantBig(t *testing.T, what string, got api.Int, want *big.Int) {
	t.Helper()
	if !canonicalInt(got) || bigInt(got).Cmp(want) != 0 {
		t.Fatalf("%s: got %v, want %v", what, got, want)
	}
}

func wantError(t *testing.T, what string, got, want api.Errno) {
	t.Helper()
	if got != want {
		t.Fatalf("%s: the error is %d, not %d", what, got, want)
	}
}

// wantNothing demands the struct of zero fields, which goes with an error.
func wantNothing(t *testing.T, what string, l ...api.Rational) {
	t.Helper()
	for _, x := range l {
		if x.Num.Neg || x.Den.Neg || len(x.Num.Mag)+len(x.Den.Mag) != 0 {
			t.Fatalf("%s: got %v, want the zero value", what, x)
		}
	}
}

func copiedInt(x api.Int) api.Int {
	return api.Int{Neg: x.Neg, Mag: slices.Clone(x.Mag)}
}

func copied(x api.Rational) api.Rational {
	return literal(copiedInt(x.Num), copiedInt(x.Den))
}

func sameInt(x, y api.Int) bool {
	return x.Neg == y.Neg && slices.Equal(x.Mag, y.Mag)
}

func same(x, y api.Rational) bool {
	return sameInt(x.Num, y.Num) && sameInt(x.Den, y.Den)
}

// sequence is a fixed sequence of words.
type sequence uint64

func (s *sequence) next() uint32 {
	*s = *s*6364136223846793005 + 1442695040888963407
	return uint32(*s >> 32)
}

func (s *sequence) integer(length int) api.Int {
	x := api.Int{Neg: s.next()%2 == 0}
	for range length {
		x.Mag = append(x.Mag, s.next())
	}
	return x
}

func (s *sequence) rational(length int) api.Rational {
	return literal(s.integer(length), s.integer(length))
}

// below returns a whole number from 0 to n - 1.
func (s *sequence) below(n int) int {
	return int(s.next()) % n
}

// few are numbers of every sign and form, few enough for tests with three of them.
func few() []api.Rational {
	s := sequence(1)
	return []api.Rational{
		{},
		over(0, 1), over(5, 0), over(0, -3),
		over(1, 1), over(-1, 1), over(2, -2),
		over(1, 2), over(-1, 2), over(2, 4), over(1, -2), over(1, 3), over(-6, -4), over(7, 3),
		over(1<<40, 3<<20), over(math.MaxInt, math.MinInt),
		s.rational(2), s.rational(3),
	}
}

// samples are numbers of every sign, form and length: not canonical ones as well.
func samples() []api.Rational {
	l := few()
	for n := -6; n <= 6; n++ {
		for d := -4; d <= 4; d++ {
			l = append(l, over(n, d))
		}
	}
	zeros := []api.Int{{}, {Neg: true}, {Mag: []uint32{}}, whole(false, 0), whole(true, 0, 0)}
	for _, zero := range zeros {
		l = append(l, literal(zero, whole(false, 7)), literal(zero, whole(true, 7)), literal(whole(true, 7), zero), literal(zero, zero))
	}
	l = append(l,
		literal(whole(true, 6, 0), whole(false, 4, 0, 0)),
		literal(whole(false, 0, 6, 0), whole(true, 0, 3, 0)),
		literal(whole(true, math.MaxUint32, math.MaxUint32), whole(true, math.MaxUint32)),
		over(math.MaxInt, 1), over(math.MinInt, 1), over(math.MinInt, -1), over(1, math.MinInt), over(math.MinInt, math.MinInt))
	s := sequence(2)
	for n := 1; n <= 9; n++ {
		l = append(l, s.rational(n), literal(s.integer(n), s.integer(1)), literal(s.integer(1), s.integer(n)))
	}
	x := s.rational(4)
	common := s.integer(3)
	return append(l, x, literal(integer.Mul(x.Num, common), integer.Mul(x.Den, common)), rational.Norm(x))
}
