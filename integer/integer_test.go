package integer_test

import (
	"math"
	"math/big"
	"testing"

	"wayfinder/api"
	"wayfinder/integer"
)

// P1.1

func TestOf(t *testing.T) {
	for _, n := range []int{0, 1, -1, 5, -3, 1<<31 - 1, 1 << 31, 1<<32 - 1, 1 << 32, -1 << 32, 1<<33 + 7, math.MaxInt, math.MinInt, math.MinInt + 1} {
		wantInt(t, "Of", integer.Of(n), n)
	}
}

func TestSmall(t *testing.T) {
	for _, x := range samples() {
		v := valueOf(x)
		got, ok := integer.Small(x)
		want := 0
		if v.IsInt64() {
			want = int(v.Int64())
		}
		if got != want || ok != v.IsInt64() {
			t.Errorf("Small(%v) is %d, %t", v, got, ok)
		}
	}
	for _, n := range []int{0, 1, -1, 1 << 32, math.MaxInt, math.MinInt} {
		if got, ok := integer.Small(integer.Of(n)); got != n || !ok {
			t.Errorf("Small(%d) is %d, %t", n, got, ok)
		}
	}
	if got, ok := integer.Small(literal(true, 0, 1<<31, 0, 0)); got != math.MinInt || !ok {
		t.Error(got, ok)
	}
	for _, x := range []api.Int{literal(false, 0, 1<<31), literal(true, 1, 1<<31), literal(false, 1, 0, 1), literal(true, 0, 0, 1)} {
		if got, ok := integer.Small(x); got != 0 || ok {
			t.Errorf("Small(%v) is %d, %t", x, got, ok)
		}
	}
}

func TestNorm(t *testing.T) {
	for _, x := range samples() {
		wantBig(t, "Norm", integer.Norm(x), valueOf(x))
	}
	wantZero(t, "Norm", integer.Norm(literal(true, 0, 0)), integer.Norm(api.Int{Neg: true}))
	if x := integer.Norm(literal(true, 0, 3, 0, 0)); !same(x, literal(true, 0, 3)) {
		t.Error(x)
	}
}

// P1.2

func TestSign(t *testing.T) {
	for _, x := range samples() {
		if got, want := integer.Sign(x), valueOf(x).Sign(); got != want {
			t.Errorf("Sign(%v) is %d", x, got)
		}
	}
}

func TestCmp(t *testing.T) {
	for _, a := range samples() {
		for _, b := range samples() {
			if got, want := integer.Cmp(a, b), valueOf(a).Cmp(valueOf(b)); got != want {
				t.Fatalf("Cmp(%v, %v) is %d", a, b, got)
			}
		}
	}
	// Only one of the words differs, and the lower ones say the opposite.
	if integer.Cmp(literal(false, 9, 9, 1), literal(false, 1, 1, 2)) != -1 || integer.Cmp(literal(true, 9, 9, 1), literal(true, 1, 1, 2)) != 1 {
		t.Error("the highest word counts")
	}
}

// P1.3

func TestNegAbs(t *testing.T) {
	for _, x := range samples() {
		wantBig(t, "Neg", integer.Neg(x), new(big.Int).Neg(valueOf(x)))
		wantBig(t, "Abs", integer.Abs(x), new(big.Int).Abs(valueOf(x)))
	}
}

func TestAddSubMul(t *testing.T) {
	for _, a := range samples() {
		for _, b := range samples() {
			x, y := valueOf(a), valueOf(b)
			wantBig(t, "Add", integer.Add(a, b), new(big.Int).Add(x, y))
			wantBig(t, "Sub", integer.Sub(a, b), new(big.Int).Sub(x, y))
			wantBig(t, "Mul", integer.Mul(a, b), new(big.Int).Mul(x, y))
		}
	}
}

func TestLongSumsAndProducts(t *testing.T) {
	s := sequence(2)
	for _, n := range []int{100, 300, 1000} {
		a, b := s.integer(n), s.integer(n/2)
		x, y := valueOf(a), valueOf(b)
		wantBig(t, "Add", integer.Add(a, b), new(big.Int).Add(x, y))
		wantBig(t, "Sub", integer.Sub(b, a), new(big.Int).Sub(y, x))
		wantBig(t, "Mul", integer.Mul(a, b), new(big.Int).Mul(x, y))
		wantBig(t, "Mul", integer.Mul(b, a), new(big.Int).Mul(x, y))
	}
}

// P1.4

func wantDivMod(t *testing.T, a, b api.Int) {
	t.Helper()
	q, r, e := integer.DivMod(a, b)
	y := valueOf(b)
	if y.Sign() == 0 {
		if e != api.ErrSingular {
			t.Fatalf("DivMod(%v, 0) has the error %d", a, e)
		}
		wantZero(t, "DivMod", q, r)
		return
	}
	if e != api.OK {
		t.Fatalf("DivMod(%v, %v) has the error %d", a, b, e)
	}
	// DivMod of package big is Euclidean division as well.
	u, v := new(big.Int).DivMod(valueOf(a), y, new(big.Int))
	wantBig(t, "quotient", q, u)
	wantBig(t, "remainder", r, v)
}

func TestDivMod(t *testing.T) {
	for _, a := range samples() {
		for _, b := range samples() {
			wantDivMod(t, a, b)
		}
	}
	for a := -12; a <= 12; a++ {
		for b := -5; b <= 5; b++ {
			wantDivMod(t, integer.Of(a), integer.Of(b))
		}
	}
	q, r, e := integer.DivMod(integer.Of(-7), integer.Of(2))
	if e != api.OK {
		t.Error(e)
	}
	wantInt(t, "quotient", q, -4)
	wantInt(t, "remainder", r, 1)
}

func TestDivModByZero(t *testing.T) {
	for _, zero := range []api.Int{{}, {Neg: true}, literal(false, 0), literal(true, 0, 0, 0)} {
		for _, a := range []api.Int{{}, integer.Of(5), integer.Of(-5), literal(true, 1, 2, 3)} {
			wantDivMod(t, a, zero)
		}
	}
}

// Among these, the first estimate of a word of the quotient is too great in all possible ways.
func TestDivModOfEdges(t *testing.T) {
	l := []uint32{0, 1, 1<<31 - 1, 1 << 31, math.MaxUint32 - 1, math.MaxUint32}
	for i := range 6 * 6 * 6 * 6 {
		a := literal(false, l[i%6], l[i/6%6], l[i/36%6], l[i/216])
		for j := range 6 * 6 * 6 {
			wantDivMod(t, a, literal(false, l[j%6], l[j/6%6], l[j/36]))
		}
	}
}

func TestDivModOfLongIntegers(t *testing.T) {
	s := sequence(3)
	for range 300 {
		a, b := s.integer(int(s.next()%80)), s.integer(int(s.next()%40))
		wantDivMod(t, a, b)
		// One less than a multiple has the greatest remainder, a multiple has none.
		multiple := integer.Mul(a, b)
		wantDivMod(t, multiple, b)
		wantDivMod(t, integer.Sub(multiple, integer.Of(1)), b)
	}
}

// P1.5

func wantGcd(t *testing.T, a, b api.Int) {
	t.Helper()
	x, y := new(big.Int).Abs(valueOf(a)), new(big.Int).Abs(valueOf(b))
	wantBig(t, "Gcd", integer.Gcd(a, b), new(big.Int).GCD(nil, nil, x, y))
}

func TestGcd(t *testing.T) {
	for _, a := range samples() {
		for _, b := range samples() {
			wantGcd(t, a, b)
		}
	}
	for a := -30; a <= 30; a++ {
		for b := -30; b <= 30; b++ {
			wantGcd(t, integer.Of(a), integer.Of(b))
		}
	}
	wantZero(t, "Gcd", integer.Gcd(api.Int{Neg: true}, literal(true, 0)))
}

func TestGcdOfLongIntegers(t *testing.T) {
	s := sequence(4)
	for range 1000 {
		a, b, c := s.integer(int(s.next()%30)), s.integer(int(s.next()%30)), s.integer(int(s.next()%20))
		wantGcd(t, integer.Mul(a, c), integer.Mul(b, c))
		// Quotients of all lengths: between neighbours, and with a small difference.
		wantGcd(t, integer.Mul(a, c), integer.Add(integer.Mul(a, c), b))
		wantGcd(t, integer.Add(integer.Mul(integer.Mul(a, b), c), c), integer.Mul(b, c))
	}
}

// Neighbours in Fibonacci's sequence take the most steps; the others here have one great quotient among small ones.
func TestGcdOfManySteps(t *testing.T) {
	a, b := integer.Of(0), integer.Of(1)
	for range 900 {
		a, b = b, integer.Add(a, b)
		wantGcd(t, a, b)
		wantGcd(t, integer.Mul(a, integer.Of(-15)), integer.Mul(b, integer.Of(35)))
	}
	for bits := 1; bits < 200; bits += 3 {
		c, d := integer.Of(3), integer.Of(2)
		for i := range 300 {
			q := integer.Of(1)
			if i%50 == 49 {
				q = fromBig(new(big.Int).Lsh(big.NewInt(1), uint(bits)))
			}
			c, d = integer.Add(integer.Mul(q, c), d), c
		}
		wantGcd(t, c, d)
		wantGcd(t, integer.Mul(c, integer.Of(6)), integer.Mul(d, integer.Of(-6)))
	}
}

// A step of which the remainder equals the quotient leaves, judged by the highest 62 digits alone, nothing certain to divide by.
func TestGcdOfEqualQuotientAndRemainder(t *testing.T) {
	s := sequence(8)
	for range 100 {
		// In the first step: x = q*m + q.
		q := 1<<29 + int(s.next()>>3)
		m := 1<<61/q + 1 + int(s.next()>>8)
		wantGcdOfTops(t, &s, q*m+q, m)
		// In the second step: x = m + y and m = q*y + q.
		q = 1 + int(s.next()%50)
		y := 1<<61/(q+1) + int(s.next())
		m = q*y + q
		wantGcdOfTops(t, &s, m+y, m)
	}
}

// wantGcdOfTops tests integers that begin with the digits of x and y, where those of x are 62.
func wantGcdOfTops(t *testing.T, s *sequence, x, y int) {
	t.Helper()
	if x>>61 != 1 || y > x {
		t.Fatal(x, y)
	}
	power := literal(false, 0, 0, 1)
	a, b := integer.Mul(integer.Of(x), power), integer.Mul(integer.Of(y), power)
	wantGcd(t, a, b)
	wantGcd(t, integer.Add(a, literal(false, s.next(), s.next())), integer.Add(b, literal(false, s.next(), s.next())))
}

func fromBig(v *big.Int) api.Int {
	x := api.Int{Neg: v.Sign() < 0}
	m := new(big.Int).Abs(v)
	for m.Sign() > 0 {
		x.Mag = append(x.Mag, uint32(m.Uint64()))
		m.Rsh(m, 32)
	}
	return x
}

func TestBits(t *testing.T) {
	for _, x := range samples() {
		if got, want := integer.Bits(x), valueOf(x).BitLen(); got != want {
			t.Errorf("Bits(%v) is %d", x, got)
		}
	}
	for n, want := range []int{0, 1, 2, 2, 3, 3, 3, 3, 4} {
		if integer.Bits(integer.Of(n)) != want || integer.Bits(integer.Of(-n)) != want {
			t.Errorf("Bits(%d) is not %d", n, want)
		}
	}
}

func wantSqrt(t *testing.T, x api.Int) {
	t.Helper()
	s, e := integer.Sqrt(x)
	if valueOf(x).Sign() < 0 {
		if e != api.ErrRange {
			t.Fatalf("Sqrt(%v) has the error %d", x, e)
		}
		wantZero(t, "Sqrt", s)
		return
	}
	if e != api.OK {
		t.Fatalf("Sqrt(%v) has the error %d", x, e)
	}
	wantBig(t, "Sqrt", s, new(big.Int).Sqrt(valueOf(x)))
}

func TestSqrt(t *testing.T) {
	for _, x := range samples() {
		wantSqrt(t, x)
		// The root changes exactly at a square.
		square := integer.Mul(x, x)
		wantSqrt(t, square)
		wantSqrt(t, integer.Sub(square, integer.Of(1)))
		wantSqrt(t, integer.Add(square, integer.Of(1)))
		wantSqrt(t, integer.Add(square, integer.Mul(integer.Of(2), x)))
	}
	for n := -3; n <= 1000; n++ {
		wantSqrt(t, integer.Of(n))
	}
	s := sequence(5)
	for n := range 150 {
		wantSqrt(t, integer.Abs(s.integer(n)))
	}
	wantSqrt(t, literal(true, 0, 0))
}

// P1.7

func TestLaws(t *testing.T) {
	l := samples()
	for i, a := range l {
		for _, b := range l {
			c := l[(7*i+3)%len(l)]
			equal(t, "a + b = b + a", integer.Add(a, b), integer.Add(b, a))
			equal(t, "a * b = b * a", integer.Mul(a, b), integer.Mul(b, a))
			equal(t, "(a + b) + c = a + (b + c)", integer.Add(integer.Add(a, b), c), integer.Add(a, integer.Add(b, c)))
			equal(t, "(a * b) * c = a * (b * c)", integer.Mul(integer.Mul(a, b), c), integer.Mul(a, integer.Mul(b, c)))
			equal(t, "(a + b) * c = a * c + b * c", integer.Mul(integer.Add(a, b), c), integer.Add(integer.Mul(a, c), integer.Mul(b, c)))
		}
	}
}

func equal(t *testing.T, law string, x, y api.Int) {
	t.Helper()
	if !same(x, y) {
		t.Fatalf("%s: %v, %v", law, x, y)
	}
}
