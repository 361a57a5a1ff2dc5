package rotation_test

import (
	"math/big"
	"testing"

	"wayfinder/api"
	"wayfinder/rational"
	"wayfinder/rotation"
)

// transforms are transforms with rotations of every order, and with numbers that are not canonical.
func transforms() []api.Transform {
	s := sequence(5)
	return []api.Transform{
		{},
		{R: literal(0, -2), X: over(1, 0), Y: over(0, -1)},
		{X: over(3, 1), Y: over(-1, 2)},
		{X: over(-6, -2), Y: over(2, -4)},
		{R: literal(1, 2)},
		{R: literal(-2, -4), X: over(5, 1)},
		{R: literal(1, 2), X: over(10, 2), Y: over(7, 3)},
		{R: literal(1, 2), Y: over(7, 3)},
		{R: literal(1, 1), X: over(1, 1), Y: over(2, 1)},
		{R: literal(-1, 1), X: over(2, 1), Y: over(1, 1)},
		{R: literal(7, 0), X: over(-1, 3), Y: over(4, 5)},
		{R: api.Rot{P: whole(true, 6, 0), Q: whole(false, 9, 0, 0)}, X: api.Rational{Num: whole(true, 0, 4, 0), Den: whole(false, 6, 0)}, Y: over(1, -7)},
		{R: s.rot(2), X: api.Rational{Num: s.integer(2), Den: s.integer(1)}, Y: api.Rational{Num: s.integer(1), Den: s.integer(2)}},
	}
}

// mapped calculates by the definition where t maps z, independently of the program.
func mapped(t api.Transform, z point) point {
	return circle(t.R).times(z).plus(at(t.X, t.Y))
}

// wantTransform demands the transform that turns (1, 0) to turned, and then adds moved.
func wantTransform(t *testing.T, what string, got api.Transform, turned, moved point) {
	t.Helper()
	wantRot(t, what, got.R, turned)
	wantPoint(t, what, got.X, got.Y, moved)
}

func sameTransform(t, u api.Transform) bool {
	return same(t.R, u.R) && sameRational(t.X, u.X) && sameRational(t.Y, u.Y)
}

// P3.1

func TestShift(t *testing.T) {
	for _, x := range numbers() {
		for _, y := range numbers() {
			got := rotation.Shift(x, y)
			wantTransform(t, "Shift", got, ratio(1, 0, 1), at(x, y))
			wantLiteral(t, "Shift", got.R, 0, 1)
		}
	}
}

func TestAct(t *testing.T) {
	for _, u := range transforms() {
		for _, x := range numbers() {
			for _, y := range numbers() {
				gotX, gotY := rotation.Act(u, x, y)
				wantPoint(t, "Act", gotX, gotY, mapped(u, at(x, y)))
			}
		}
	}
	// The rotation comes first, then the translation.
	x, y := rotation.Act(api.Transform{R: literal(1, 2), X: over(10, 1), Y: over(1, 2)}, over(5, 1), over(0, 1))
	wantPoint(t, "Act", x, y, ratio(26, 9, 2))
}

func TestCompose(t *testing.T) {
	for _, u := range transforms() {
		for _, v := range transforms() {
			got := rotation.Compose(u, v)
			wantTransform(t, "Compose", got, circle(u.R).times(circle(v.R)), mapped(u, at(v.X, v.Y)))
			for _, x := range numbers() {
				gotX, gotY := rotation.Act(got, x, over(1, 3))
				wantPoint(t, "Act of Compose", gotX, gotY, mapped(u, mapped(v, at(x, over(1, 3)))))
			}
		}
	}
	// The translation is rotated if the rotation comes after it, and only then.
	move, turn := rotation.Shift(over(5, 1), over(0, 1)), api.Transform{R: literal(1, 2)}
	wantTransform(t, "Compose", rotation.Compose(turn, move), ratio(3, 4, 5), ratio(3, 4, 1))
	wantTransform(t, "Compose", rotation.Compose(move, turn), ratio(3, 4, 5), ratio(5, 0, 1))
}

func TestBack(t *testing.T) {
	for _, u := range transforms() {
		back := circle(u.R).mirrored()
		wantTransform(t, "Back", rotation.Back(u), back, ratio(0, 0, 1).minus(back.times(at(u.X, u.Y))))
		for _, x := range numbers() {
			thereX, thereY := rotation.Act(u, x, over(1, 3))
			backX, backY := rotation.Act(rotation.Back(u), thereX, thereY)
			wantPoint(t, "Act of Back", backX, backY, at(x, over(1, 3)))
		}
	}
	wantTransform(t, "Back", rotation.Back(api.Transform{R: literal(1, 1), X: over(2, 1), Y: over(1, 1)}), ratio(0, -1, 1), ratio(-1, 2, 1))
}

func TestEqual(t *testing.T) {
	for _, u := range transforms() {
		for _, v := range transforms() {
			want := circle(u.R).is(circle(v.R)) && at(u.X, u.Y).is(at(v.X, v.Y))
			if rotation.Equal(u, v) != want {
				t.Fatalf("Equal(%v, %v) is not %t", u, v, want)
			}
		}
	}
	u := api.Transform{R: literal(1, 2), X: over(1, 2), Y: over(1, 3)}
	if !rotation.Equal(u, api.Transform{R: literal(-2, -4), X: over(-3, -6), Y: over(2, 6)}) {
		t.Error("one transform, written in two ways")
	}
	for _, v := range []api.Transform{{R: literal(2, 1), X: u.X, Y: u.Y}, {R: u.R, X: over(1, 3), Y: u.Y}, {R: u.R, X: u.X, Y: over(1, 2)}, {}} {
		if rotation.Equal(u, v) || rotation.Equal(v, u) {
			t.Errorf("%v and %v are equal", u, v)
		}
	}
}

// P3.3

func TestTransformsAreGroup(t *testing.T) {
	identity := rotation.Shift(api.Rational{}, api.Rational{})
	for _, u := range transforms() {
		canonical := rotation.Compose(u, api.Transform{})
		if !rotation.Equal(canonical, u) || !sameTransform(canonical, rotation.Compose(identity, u)) {
			t.Fatalf("the identity changes %v", u)
		}
		back := rotation.Back(u)
		if !sameTransform(rotation.Compose(u, back), identity) || !sameTransform(rotation.Compose(back, u), identity) {
			t.Fatalf("Back does not undo %v", u)
		}
		for _, v := range transforms() {
			for _, w := range transforms() {
				if !sameTransform(rotation.Compose(rotation.Compose(u, v), w), rotation.Compose(u, rotation.Compose(v, w))) {
					t.Fatalf("%v, %v and %v", u, v, w)
				}
			}
		}
	}
}

// squared returns the squared distance of two points.
func squared(a, b point) *big.Rat {
	d := a.minus(b)
	return d.times(d.mirrored()).x
}

// area returns twice the area of a triangle, negative if it is clockwise.
func area(a, b, c point) *big.Rat {
	return b.minus(a).mirrored().times(c.minus(a)).y
}

func TestTransformsAreRigid(t *testing.T) {
	acted := func(u api.Transform, x, y api.Rational) point {
		return at(rotation.Act(u, x, y))
	}
	for _, u := range transforms() {
		for _, x := range numbers() {
			for _, y := range numbers() {
				a, b, c := at(x, y), at(over(1, 2), y), at(y, over(-3, 1))
				d, e, f := acted(u, x, y), acted(u, over(1, 2), y), acted(u, y, over(-3, 1))
				if squared(a, b).Cmp(squared(d, e)) != 0 || squared(b, c).Cmp(squared(e, f)) != 0 {
					t.Fatalf("%v changes the distance", u)
				}
				if area(a, b, c).Cmp(area(d, e, f)) != 0 {
					t.Fatalf("%v changes the orientation", u)
				}
			}
		}
	}
}

// Many steps add up exactly.
func TestLongWay(t *testing.T) {
	step := api.Transform{R: rotation.Mark(21), X: rational.Of(1, 3), Y: rational.Of(-2, 7)}
	way, z := api.Transform{}, ratio(0, 0, 1)
	for range 40 {
		way = rotation.Compose(step, way)
		z = mapped(step, z)
	}
	x, y := rotation.Act(way, api.Rational{}, api.Rational{})
	wantPoint(t, "a long way", x, y, z)
	power, e := rotation.Power(step.R, 40)
	if e != api.OK || !same(power, way.R) {
		t.Error("the rotation of a long way")
	}
}
