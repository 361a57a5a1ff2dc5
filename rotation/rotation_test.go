package rotation_test

import (
	"math"
	"math/big"
	"testing"

	"wayfinder/api"
	"wayfinder/heading"
	"wayfinder/integer"
	"wayfinder/rational"
	"wayfinder/rotation"
)

// P3.1

func TestOf(t *testing.T) {
	l := []int{0, 1, -1, 2, -2, 3, 4, -6, 12, 1 << 32, -1 << 33, math.MaxInt, -math.MaxInt, math.MinInt}
	for _, p := range l {
		for _, q := range l {
			wantRot(t, "Of", rotation.Of(p, q), circle(literal(p, q)))
		}
	}
	wantLiteral(t, "Of(0, 0)", rotation.Of(0, 0), 0, 1)
	wantLiteral(t, "Of(0, -7)", rotation.Of(0, -7), 0, 1)
	wantLiteral(t, "Of(-7, 0)", rotation.Of(-7, 0), 1, 0)
	wantLiteral(t, "Of(-2, -4)", rotation.Of(-2, -4), 1, 2)
	wantLiteral(t, "Of(6, -9)", rotation.Of(6, -9), -2, 3)
	wantLiteral(t, "Of(MinInt, MinInt)", rotation.Of(math.MinInt, math.MinInt), 1, 1)
}

func TestNorm(t *testing.T) {
	for _, r := range samples() {
		wantRot(t, "Norm", rotation.Norm(r), circle(r))
	}
	// The identity is P = 0, Q = 1, however it is written.
	for _, r := range []api.Rot{{}, literal(0, -5), {P: whole(true, 0), Q: whole(true, 0, 0)}, {P: whole(true), Q: whole(true, 3, 0)}} {
		wantLiteral(t, "Norm", rotation.Norm(r), 0, 1)
	}
	wantLiteral(t, "Norm", rotation.Norm(api.Rot{P: whole(true, 6, 0), Q: whole(false, 9, 0, 0)}), -2, 3)
}

// direction calculates the direction of the mark 64q + k as chapter 4 defines it.
func direction(q, k int64) point {
	d := ratio(4096-k*k, 128*k, 4096+k*k)
	for range q {
		d = d.times(ratio(0, 1, 1))
	}
	return d
}

func TestMark(t *testing.T) {
	for h := range 256 {
		want := direction(int64(h/64), int64(h%64))
		for _, turns := range []int{0, 1, -1, 5, -7, 1 << 50, -1 << 50} {
			wantRot(t, "Mark", rotation.Mark(h+256*turns), want)
		}
	}
	wantLiteral(t, "Mark(0)", rotation.Mark(0), 0, 1)
	wantLiteral(t, "Mark(32)", rotation.Mark(32), 1, 2)
	wantLiteral(t, "Mark(64)", rotation.Mark(64), 1, 1)
	wantLiteral(t, "Mark(128)", rotation.Mark(128), 1, 0)
	wantLiteral(t, "Mark(192)", rotation.Mark(192), -1, 1)
	wantLiteral(t, "Mark(-1)", rotation.Mark(-1), -1, 127)
	// These are 0 and 255 modulo 256.
	wantLiteral(t, "Mark(MinInt)", rotation.Mark(math.MinInt), 0, 1)
	wantLiteral(t, "Mark(MaxInt)", rotation.Mark(math.MaxInt), -1, 127)
}

func TestSame(t *testing.T) {
	for _, a := range samples() {
		for _, b := range samples() {
			want := circle(a).is(circle(b))
			if rotation.Same(a, b) != want || same(rotation.Norm(a), rotation.Norm(b)) != want {
				t.Fatalf("Same(%v, %v) is not %t", a, b, want)
			}
		}
	}
	if rotation.Same(literal(1, 2), literal(-1, 2)) || rotation.Same(api.Rot{}, literal(1, 0)) || rotation.Same(literal(1, 2), api.Rot{}) {
		t.Error("different rotations")
	}
	if !rotation.Same(literal(1, 2), literal(-2, -4)) || !rotation.Same(api.Rot{}, literal(0, -3)) || !rotation.Same(literal(-5, 0), literal(1, 0)) {
		t.Error("one rotation, written in two ways")
	}
}

func TestThen(t *testing.T) {
	for _, a := range samples() {
		for _, b := range samples() {
			wantRot(t, "Then", rotation.Then(a, b), circle(a).times(circle(b)))
		}
	}
	half := rotation.Of(1, 2)
	wantLiteral(t, "Then", rotation.Then(half, half), 4, 3)
	wantLiteral(t, "Then", rotation.Then(literal(1, 1), literal(3, 3)), 1, 0)
}

func TestInverse(t *testing.T) {
	for _, a := range samples() {
		wantRot(t, "Inverse", rotation.Inverse(a), circle(a).mirrored())
	}
	wantLiteral(t, "Inverse", rotation.Inverse(api.Rot{}), 0, 1)
	wantLiteral(t, "Inverse", rotation.Inverse(literal(3, 0)), 1, 0)
	wantLiteral(t, "Inverse", rotation.Inverse(literal(2, -6)), 1, 3)
}

// wantPowers tests the exponents from -most to most.
func wantPowers(t *testing.T, a api.Rot, most int) {
	t.Helper()
	want := ratio(1, 0, 1)
	for n := range most + 1 {
		there, e := rotation.Power(a, n)
		back, f := rotation.Power(a, -n)
		if e != api.OK || f != api.OK {
			t.Fatalf("Power(%v, %d) has the errors %d and %d", a, n, e, f)
		}
		wantRot(t, "Power", there, want)
		wantRot(t, "Power of the inverse", back, want.mirrored())
		want = want.times(circle(a))
	}
}

func TestPower(t *testing.T) {
	for _, a := range few() {
		wantPowers(t, a, 64)
	}
	for _, a := range samples() {
		wantPowers(t, a, 5)
	}
}

func TestPowerRange(t *testing.T) {
	for _, a := range few() {
		for _, n := range []int{65, -65, 66, 128, -128, 256, 1 << 32, math.MaxInt, math.MinInt} {
			got, e := rotation.Power(a, n)
			if e != api.ErrRange || got.P.Neg || got.Q.Neg || len(got.P.Mag)+len(got.Q.Mag) != 0 {
				t.Fatalf("Power(%v, %d) is %v with the error %d", a, n, got, e)
			}
		}
	}
}

// ordered repeats a rotation until it is the identity; 0 if that takes more than 64 times.
func ordered(a point) int {
	turned := a
	for n := 1; n <= 64; n++ {
		if turned.is(ratio(1, 0, 1)) {
			return n
		}
		turned = turned.times(a)
	}
	return 0
}

func TestOrder(t *testing.T) {
	for _, a := range samples() {
		if got, want := rotation.Order(a), ordered(circle(a)); got != want {
			t.Errorf("Order(%v) is %d, not %d", a, got, want)
		}
	}
	for h := range 256 {
		want := map[int]int{0: 1, 64: 4, 128: 2, 192: 4}[h]
		if got := rotation.Order(rotation.Mark(h)); got != want {
			t.Errorf("Order(Mark(%d)) is %d", h, got)
		}
	}
	s := sequence(4)
	x := s.integer(9)
	for want, a := range map[int]api.Rot{0: s.rot(9), 1: {Q: x}, 2: {P: x}, 4: {P: integer.Neg(x), Q: x}} {
		if got := rotation.Order(a); got != want {
			t.Errorf("the order of long numbers is %d, not %d", got, want)
		}
	}
}

func TestCosineSine(t *testing.T) {
	for _, a := range samples() {
		wantPoint(t, "Cosine and Sine", rotation.Cosine(a), rotation.Sine(a), circle(a))
	}
}

func TestTurn(t *testing.T) {
	for _, a := range samples() {
		for _, x := range numbers() {
			for _, y := range numbers() {
				turnedX, turnedY := rotation.Turn(a, x, y)
				wantPoint(t, "Turn", turnedX, turnedY, circle(a).times(at(x, y)))
			}
		}
	}
}

func TestExamples(t *testing.T) {
	a := rotation.Of(1, 2)
	wantPoint(t, "Of(1, 2)", rotation.Cosine(a), rotation.Sine(a), ratio(3, 4, 5))
	b := rotation.Then(a, a)
	wantPoint(t, "Of(4, 3)", rotation.Cosine(b), rotation.Sine(b), ratio(-7, 24, 25))
	if !rotation.Same(rotation.Of(-2, -4), a) {
		t.Error("Of(-2, -4)")
	}
	x, y := rotation.Turn(a, over(5, 1), over(0, 1))
	wantPoint(t, "Turn", x, y, ratio(3, 4, 1))
	// A positive rotation is counterclockwise.
	x, y = rotation.Turn(rotation.Mark(64), over(2, 1), over(1, 1))
	wantPoint(t, "Turn", x, y, ratio(-1, 2, 1))
}

// P3.2

func TestGroup(t *testing.T) {
	for _, a := range samples() {
		for _, b := range samples() {
			if !same(rotation.Then(a, b), rotation.Then(b, a)) {
				t.Fatalf("the order of %v and %v", a, b)
			}
		}
		if !same(rotation.Then(a, api.Rot{}), rotation.Norm(a)) || !same(rotation.Then(rotation.Of(0, 1), a), rotation.Norm(a)) {
			t.Fatalf("the identity changes %v", a)
		}
		wantLiteral(t, "Inverse", rotation.Then(a, rotation.Inverse(a)), 0, 1)
		c, s := rotation.Cosine(a), rotation.Sine(a)
		one := rational.Add(rational.Mul(c, c), rational.Mul(s, s))
		wantNumber(t, "the sum of the squares", one, big.NewRat(1, 1))
	}
	for _, a := range few() {
		for _, b := range few() {
			for _, c := range few() {
				if !same(rotation.Then(rotation.Then(a, b), c), rotation.Then(a, rotation.Then(b, c))) {
					t.Fatalf("%v, %v and %v", a, b, c)
				}
			}
		}
	}
}

// P3.4

func TestMarksAreDirections(t *testing.T) {
	one, zero := over(1, 1), over(0, 1)
	for h := range 256 {
		first := direction(int64(h/64), int64(h%64))
		x, y := rotation.Turn(rotation.Mark(h), one, zero)
		wantPoint(t, "Mark", x, y, first)
		for k := 0; k < 256; k += 3 {
			both := rotation.Then(rotation.Mark(h), rotation.Mark(k))
			x, y = rotation.Turn(both, one, zero)
			wantPoint(t, "the product of two marks", x, y, first.times(direction(int64(k/64), int64(k%64))))
		}
	}
}

// pointed is the point of the unit circle in the direction of v.
func pointed(v api.Vector) point {
	return ratio(int64(v.X), int64(v.Y), int64(v.D))
}

func TestMarksAgreeWithHeadings(t *testing.T) {
	one, zero := over(1, 1), over(0, 1)
	for h := range 256 {
		x, y := rotation.Turn(rotation.Mark(h), one, zero)
		wantPoint(t, "Mark", x, y, pointed(heading.Dir(h)))
		for k := 0; k < 256; k += 3 {
			x, y = rotation.Turn(rotation.Then(rotation.Mark(h), rotation.Mark(k)), one, zero)
			wantPoint(t, "the product of two marks", x, y, pointed(heading.Beam(h, k)))
		}
	}
	for _, h := range []int{-1, 256, 1<<50 + 3, math.MinInt, math.MaxInt} {
		x, y := rotation.Turn(rotation.Mark(h), one, zero)
		wantPoint(t, "Mark", x, y, pointed(heading.Dir(h)))
	}
}

// P3.5

func TestOrderOfRepeatedIdentity(t *testing.T) {
	for _, a := range few() {
		order := rotation.Order(a)
		for n := 1; n <= 64; n++ {
			r, e := rotation.Power(a, n)
			if e != api.OK {
				t.Fatal(e)
			}
			isIdentity := rotation.Same(r, api.Rot{})
			if divides := order != 0 && n%order == 0; isIdentity != divides {
				t.Fatalf("%v has the order %d; repeated %d times, it is %v", a, order, n, r)
			}
		}
	}
}
