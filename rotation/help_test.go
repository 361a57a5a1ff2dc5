package rotation_test

import (
	"math"
	"math/big"
	"slices"
	"testing"

	"wayfinder/api"
	"wayfinder/integer"
)

// whole makes an Int as it is written, canonical or not.
func whole(negative bool, mag ...uint32) api.Int {
	return api.Int{Neg: negative, Mag: mag}
}

// literal makes a Rot as it is written, canonical or not.
func literal(p, q int) api.Rot {
	return api.Rot{P: integer.Of(p), Q: integer.Of(q)}
}

// over makes n/d as it is written, with Den below 0 or equal to 0 if d is.
func over(n, d int) api.Rational {
	return api.Rational{Num: integer.Of(n), Den: integer.Of(d)}
}

// bigInt calculates the value of an Int by its definition, independently of the program.
func bigInt(x api.Int) *big.Int {
	v := new(big.Int)
	for _, w := range slices.Backward(x.Mag) {
		v.Lsh(v, 32).Or(v, big.NewInt(int64(w)))
	}
	if x.Neg {
		v.Neg(v)
	}
	return v
}

// valueOf calculates a number by its definition, independently of the program.
func valueOf(x api.Rational) *big.Rat {
	d := bigInt(x.Den)
	if d.Sign() == 0 {
		return new(big.Rat)
	}
	return new(big.Rat).SetFrac(bigInt(x.Num), d)
}

// point is a point of the plane. It is also used as the complex number x + iy, so that rotations are points of the unit circle.
type point struct {
	x, y *big.Rat
}

func at(x, y api.Rational) point {
	return point{valueOf(x), valueOf(y)}
}

func ratio(x, y, d int64) point {
	return point{big.NewRat(x, d), big.NewRat(y, d)}
}

func (a point) plus(b point) point {
	return point{new(big.Rat).Add(a.x, b.x), new(big.Rat).Add(a.y, b.y)}
}

func (a point) minus(b point) point {
	return point{new(big.Rat).Sub(a.x, b.x), new(big.Rat).Sub(a.y, b.y)}
}

func (a point) times(b point) point {
	l, r := new(big.Rat).Mul(a.x, b.x), new(big.Rat).Mul(a.y, b.y)
	u, v := new(big.Rat).Mul(a.x, b.y), new(big.Rat).Mul(a.y, b.x)
	return point{l.Sub(l, r), u.Add(u, v)}
}

// mirrored is the conjugate of a complex number.
func (a point) mirrored() point {
	return point{a.x, new(big.Rat).Neg(a.y)}
}

func (a point) is(b point) bool {
	return a.x.Cmp(b.x) == 0 && a.y.Cmp(b.y) == 0
}

// circle calculates the cosine and the sine of a rotation by the definition, independently of the program.
func circle(r api.Rot) point {
	p, q := bigInt(r.P), bigInt(r.Q)
	pp, qq, pq := new(big.Int).Mul(p, p), new(big.Int).Mul(q, q), new(big.Int).Mul(p, q)
	d := new(big.Int).Add(pp, qq)
	if d.Sign() == 0 {
		return ratio(1, 0, 1)
	}
	return point{new(big.Rat).SetFrac(new(big.Int).Sub(qq, pp), d), new(big.Rat).SetFrac(pq.Add(pq, pq), d)}
}

func canonicalInt(x api.Int) bool {
	n := len(x.Mag)
	if n == 0 {
		return !x.Neg
	}
	return x.Mag[n-1] != 0
}

func coprime(a, b *big.Int) bool {
	common := new(big.Int).GCD(nil, nil, new(big.Int).Abs(a), new(big.Int).Abs(b))
	return common.Cmp(big.NewInt(1)) == 0
}

func canonicalRational(x api.Rational) bool {
	n, d := bigInt(x.Num), bigInt(x.Den)
	return canonicalInt(x.Num) && canonicalInt(x.Den) && d.Sign() > 0 && coprime(n, d)
}

func isCanonical(r api.Rot) bool {
	p, q := bigInt(r.P), bigInt(r.Q)
	if !canonicalInt(r.P) || !canonicalInt(r.Q) || !coprime(p, q) {
		return false
	}
	return q.Sign() > 0 || q.Sign() == 0 && p.Sign() > 0
}

func wantRot(t *testing.T, what string, got api.Rot, want point) {
	t.Helper()
	if !isCanonical(got) {
		t.Fatalf("%s: %v is not canonical", what, got)
	}
	if !circle(got).is(want) {
		t.Fatalf("%s: got %v, want the rotation to %v", what, got, want)
	}
}

// wantLiteral demands this P and this Q.
func wantLiteral(t *testing.T, what string, got api.Rot, p, q int) {
	t.Helper()
	if !same(got, literal(p, q)) {
		t.Fatalf("%s: got %v, want P = %d, Q = %d", what, got, p, q)
	}
}

func wantNumber(t *testing.T, what string, got api.Rational, want *big.Rat) {
	t.Helper()
	if !canonicalRational(got) {
		t.Fatalf("%s: %v is not canonical", what, got)
	}
	if valueOf(got).Cmp(want) != 0 {
		t.Fatalf("%s: got %v, want %v", what, valueOf(got), want)
	}
}

func wantPoint(t *testing.T, what string, x, y api.Rational, want point) {
	t.Helper()
	wantNumber(t, what+", x", x, want.x)
	wantNumber(t, what+", y", y, want.y)
}

func copiedInt(x api.Int) api.Int {
	return api.Int{Neg: x.Neg, Mag: slices.Clone(x.Mag)}
}

func copied(r api.Rot) api.Rot {
	return api.Rot{P: copiedInt(r.P), Q: copiedInt(r.Q)}
}

func copiedRational(x api.Rational) api.Rational {
	return api.Rational{Num: copiedInt(x.Num), Den: copiedInt(x.Den)}
}

func sameInt(x, y api.Int) bool {
	return x.Neg == y.Neg && slices.Equal(x.Mag, y.Mag)
}

func same(a, b api.Rot) bool {
	return sameInt(a.P, b.P) && sameInt(a.Q, b.Q)
}

func sameRational(x, y api.Rational) bool {
	return sameInt(x.Num, y.Num) && sameInt(x.Den, y.Den)
}

// sequence is a fixed sequence of words.
type sequence uint64

func (s *sequence) next() uint32 {
	*s = *s*6364136223846793005 + 1442695040888963407
	return uint32(*s >> 32)
}

func (s *sequence) integer(length int) api.Int {
	x := api.Int{Neg: s.next()%2 == 0}
	for range length {
		x.Mag = append(x.Mag, s.next())
	}
	return x
}

func (s *sequence) rot(length int) api.Rot {
	return api.Rot{P: s.integer(length), Q: s.integer(length)}
}

// few are rotations of every order, sign and form, few enough for tests with three of them.
func few() []api.Rot {
	s := sequence(1)
	return []api.Rot{
		{},
		literal(0, 1), literal(0, -3), literal(1, 0), literal(-5, 0),
		literal(1, 1), literal(-1, 1), literal(2, -2),
		literal(1, 2), literal(-2, -4), literal(1, -2), literal(2, 1), literal(-3, 1), literal(6, 10),
		{P: whole(true, 6, 0), Q: whole(false, 9, 0, 0)},
		s.rot(2), s.rot(3),
	}
}

// samples are rotations of every order, sign, form and length.
func samples() []api.Rot {
	l := few()
	for p := -4; p <= 4; p++ {
		for q := -4; q <= 4; q++ {
			l = append(l, literal(p, q))
		}
	}
	for _, zero := range []api.Int{{}, {Neg: true}, {Mag: []uint32{}}, whole(false, 0), whole(true, 0, 0)} {
		l = append(l, api.Rot{P: zero, Q: zero}, api.Rot{P: zero, Q: whole(true, 7)}, api.Rot{P: whole(true, 7), Q: zero})
	}
	s := sequence(2)
	for n := 1; n <= 5; n++ {
		l = append(l, s.rot(n), api.Rot{P: s.integer(n), Q: s.integer(1)}, api.Rot{P: s.integer(1), Q: s.integer(n)})
	}
	x, common := s.rot(3), s.integer(2)
	l = append(l, x, api.Rot{P: integer.Mul(x.P, common), Q: integer.Mul(x.Q, common)}, api.Rot{P: x.P, Q: x.P}, api.Rot{P: x.P, Q: integer.Neg(x.P)})
	return append(l, literal(math.MinInt, math.MaxInt), literal(math.MinInt, math.MinInt), literal(1, math.MinInt), literal(math.MinInt, 0))
}

// numbers are coordinates of every sign and form.
func numbers() []api.Rational {
	s := sequence(3)
	return []api.Rational{
		{},
		over(5, 0), over(1, 1), over(3, -1), over(-6, -4), over(1, 3),
		{Num: whole(true, 0, 4, 0), Den: whole(false, 6, 0)},
		{Num: s.integer(2), Den: s.integer(3)},
	}
}
