package rational_test

import (
	"math"
	"math/big"
	"testing"

	"wayfinder/api"
	"wayfinder/integer"
	"wayfinder/rational"
)

// P2.1

func TestOf(t *testing.T) {
	l := []int{0, 1, -1, 2, 3, 4, -6, 12, 1 << 32, -1 << 33, math.MaxInt, math.MinInt, math.MinInt + 1}
	for _, n := range l {
		for _, d := range l {
			want := new(big.Rat)
			if d != 0 {
				want.SetFrac(big.NewInt(int64(n)), big.NewInt(int64(d)))
			}
			wantRat(t, "Of", rational.Of(n, d), want)
			wantRat(t, "New", rational.New(integer.Of(n), integer.Of(d)), want)
		}
	}
	wantOver(t, "Of(6, -4)", rational.Of(6, -4), -3, 2)
	wantOver(t, "Of(5, 0)", rational.Of(5, 0), 0, 1)
}

func TestNewNorm(t *testing.T) {
	for _, x := range samples() {
		wantRat(t, "New", rational.New(x.Num, x.Den), valueOf(x))
		wantRat(t, "Norm", rational.Norm(x), valueOf(x))
	}
	x := rational.Norm(literal(whole(true, 6, 0), whole(false, 4, 0, 0)))
	if !same(x, literal(whole(true, 3), whole(false, 2))) {
		t.Error(x)
	}
	// 0 is 0/1, however it is written.
	for _, x := range []api.Rational{{}, over(0, 5), over(5, 0), literal(whole(true, 0), whole(true, 3)), literal(whole(false, 4), whole(true, 0))} {
		if got := rational.Norm(x); !same(got, literal(api.Int{}, whole(false, 1))) {
			t.Errorf("Norm(%v) is %v", x, got)
		}
	}
}

func TestSignNeg(t *testing.T) {
	for _, x := range samples() {
		v := valueOf(x)
		if got := rational.Sign(x); got != v.Sign() {
			t.Errorf("Sign(%v) is %d", x, got)
		}
		wantRat(t, "Neg", rational.Neg(x), new(big.Rat).Neg(v))
	}
	if rational.Sign(over(-1, -2)) != 1 || rational.Sign(over(1, -2)) != -1 || rational.Sign(over(-1, 0)) != 0 {
		t.Error("the sign of Den counts")
	}
}

func TestCmp(t *testing.T) {
	for _, a := range samples() {
		for _, b := range samples() {
			if got, want := rational.Cmp(a, b), valueOf(a).Cmp(valueOf(b)); got != want {
				t.Fatalf("Cmp(%v, %v) is %d", a, b, got)
			}
		}
	}
}

func TestAddSubMulDiv(t *testing.T) {
	for _, a := range samples() {
		for _, b := range samples() {
			x, y := valueOf(a), valueOf(b)
			wantRat(t, "Add", rational.Add(a, b), new(big.Rat).Add(x, y))
			wantRat(t, "Sub", rational.Sub(a, b), new(big.Rat).Sub(x, y))
			wantRat(t, "Mul", rational.Mul(a, b), new(big.Rat).Mul(x, y))
			got, e := rational.Div(a, b)
			if y.Sign() == 0 {
				wantError(t, "Div", e, api.ErrSingular)
				wantNothing(t, "Div", got)
				continue
			}
			wantError(t, "Div", e, api.OK)
			wantRat(t, "Div", got, new(big.Rat).Quo(x, y))
		}
	}
}

func TestExamples(t *testing.T) {
	wantOver(t, "Add", rational.Add(over(1, 2), over(1, 3)), 5, 6)
	got, e := rational.Div(over(1, 2), over(1, 3))
	wantError(t, "Div", e, api.OK)
	wantOver(t, "Div", got, 3, 2)
	got, e = rational.Parse("5/6")
	wantError(t, "Parse", e, api.OK)
	wantOver(t, "Parse", got, 5, 6)
	wantBig(t, "Floor", rational.Floor(over(-1, 2)), big.NewInt(-1))
}

func TestLongNumbers(t *testing.T) {
	s := sequence(3)
	for _, n := range []int{50, 200} {
		a, b := s.rational(n), s.rational(n/2)
		x, y := valueOf(a), valueOf(b)
		wantRat(t, "Add", rational.Add(a, b), new(big.Rat).Add(x, y))
		wantRat(t, "Sub", rational.Sub(a, b), new(big.Rat).Sub(x, y))
		wantRat(t, "Mul", rational.Mul(a, b), new(big.Rat).Mul(x, y))
		q, e := rational.Div(a, b)
		wantError(t, "Div", e, api.OK)
		wantRat(t, "Div", q, new(big.Rat).Quo(x, y))
	}
}

// floorOf rounds down, independently of the program.
func floorOf(v *big.Rat) *big.Int {
	// The denominator is positive, so that Euclidean division rounds down.
	return new(big.Int).Div(v.Num(), v.Denom())
}

func TestFloor(t *testing.T) {
	for _, x := range samples() {
		wantBig(t, "Floor", rational.Floor(x), floorOf(valueOf(x)))
	}
	for _, c := range [][3]int{{7, 2, 3}, {-7, 2, -4}, {7, -2, -4}, {-7, -2, 3}, {6, -2, -3}, {-6, 3, -2}, {0, 5, 0}, {9, 0, 0}, {1, 3, 0}, {-1, 3, -1}} {
		wantBig(t, "Floor", rational.Floor(over(c[0], c[1])), big.NewInt(int64(c[2])))
	}
}

func TestWhole(t *testing.T) {
	for _, x := range samples() {
		v := valueOf(x)
		got, ok := rational.Whole(x)
		if ok != v.IsInt() {
			t.Fatalf("Whole(%v) reports %t", x, ok)
		}
		want := new(big.Int)
		if ok {
			want = v.Num()
		}
		wantBig(t, "Whole", got, want)
	}
	if x, ok := rational.Whole(over(-8, 4)); !ok || !sameInt(x, whole(true, 2)) {
		t.Error(x, ok)
	}
	if x, ok := rational.Whole(over(7, 2)); ok || x.Neg || len(x.Mag) != 0 {
		t.Error(x, ok)
	}
	if x, ok := rational.Whole(over(3, 0)); !ok || len(x.Mag) != 0 {
		t.Error(x, ok)
	}
}

// P2.2

func TestLawsOfTwo(t *testing.T) {
	for _, a := range samples() {
		for _, b := range samples() {
			if !same(rational.Add(a, b), rational.Add(b, a)) || !same(rational.Mul(a, b), rational.Mul(b, a)) {
				t.Fatalf("the order of %v and %v", a, b)
			}
			if !same(rational.Sub(rational.Add(a, b), b), rational.Norm(a)) {
				t.Fatalf("Sub does not invert Add for %v and %v", a, b)
			}
			if rational.Sign(b) == 0 {
				continue
			}
			q, e := rational.Div(rational.Mul(a, b), b)
			if e != api.OK || !same(q, rational.Norm(a)) {
				t.Fatalf("Div does not invert Mul for %v and %v", a, b)
			}
		}
	}
}

func TestLawsOfThree(t *testing.T) {
	for _, a := range few() {
		for _, b := range few() {
			for _, c := range few() {
				if !same(rational.Add(rational.Add(a, b), c), rational.Add(a, rational.Add(b, c))) {
					t.Fatalf("sums of %v, %v and %v", a, b, c)
				}
				if !same(rational.Mul(rational.Mul(a, b), c), rational.Mul(a, rational.Mul(b, c))) {
					t.Fatalf("products of %v, %v and %v", a, b, c)
				}
				if !same(rational.Mul(a, rational.Add(b, c)), rational.Add(rational.Mul(a, b), rational.Mul(a, c))) {
					t.Fatalf("Mul does not distribute over Add for %v, %v and %v", a, b, c)
				}
			}
		}
	}
}

// P2.3

func TestOrder(t *testing.T) {
	for _, a := range few() {
		for _, b := range few() {
			s := rational.Cmp(a, b)
			if rational.Cmp(b, a) != -s || s != rational.Sign(rational.Sub(a, b)) || (s == 0) != same(rational.Norm(a), rational.Norm(b)) {
				t.Fatalf("Cmp(%v, %v) is %d", a, b, s)
			}
			for _, c := range few() {
				if rational.Cmp(rational.Add(a, c), rational.Add(b, c)) != s {
					t.Fatalf("adding %v to %v and %v", c, a, b)
				}
				if rational.Cmp(rational.Mul(a, c), rational.Mul(b, c)) != s*rational.Sign(c) {
					t.Fatalf("multiplying %v and %v by %v", a, b, c)
				}
				if s <= 0 && rational.Cmp(b, c) <= 0 && rational.Cmp(a, c) > 0 {
					t.Fatalf("%v, %v, %v are not in order", a, b, c)
				}
			}
		}
	}
}

func TestFloorIsNext(t *testing.T) {
	for _, x := range samples() {
		f := rational.New(rational.Floor(x), integer.Of(1))
		if rational.Cmp(f, x) > 0 || rational.Cmp(x, rational.Add(f, rational.Of(1, 1))) >= 0 {
			t.Fatalf("Floor(%v) is %v", x, f)
		}
	}
}
