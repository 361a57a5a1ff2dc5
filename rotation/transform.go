package rotation

import "wayfinder/rational"

// Shift returns the translation by (x, y).
func Shift(x, y Rational) Transform {
	return Transform{R: identity(), X: rational.Norm(x), Y: rational.Norm(y)}
}

// Act returns the point to which t maps (x, y).
func Act(t Transform, x, y Rational) (Rational, Rational) {
	turnedX, turnedY := Turn(t.R, x, y)
	return rational.Add(turnedX, t.X), rational.Add(turnedY, t.Y)
}

// Compose returns the transform that maps every point as u and then t do.
func Compose(t, u Transform) Transform {
	// The composition maps (0, 0) to where t maps the translation of u.
	x, y := Act(t, u.X, u.Y)
	return Transform{R: Then(u.R, t.R), X: x, Y: y}
}

// Back returns the transform that undoes t.
func Back(t Transform) Transform {
	r := Inverse(t.R)
	x, y := Turn(r, rational.Neg(t.X), rational.Neg(t.Y))
	return Transform{R: r, X: x, Y: y}
}

// Equal reports whether t and u map all points alike.
func Equal(t, u Transform) bool {
	return Same(t.R, u.R) && rational.Cmp(t.X, u.X) == 0 && rational.Cmp(t.Y, u.Y) == 0
}
