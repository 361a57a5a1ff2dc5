package rotation_test

import (
	"slices"
	"testing"

	"wayfinder/api"
	"wayfinder/rational"
	"wayfinder/rotation"
)

// rotated calls every function that takes a Rot, and returns all Ints among the results.
func rotated(a, b api.Rot, x, y api.Rational) []api.Int {
	rotation.Same(a, b)
	rotation.Order(a)
	var l []api.Int
	for _, n := range []int{-2, -1, 0, 1, 3, 65} {
		r, _ := rotation.Power(a, n)
		l = append(l, r.P, r.Q)
	}
	for _, r := range []api.Rot{rotation.Norm(a), rotation.Then(a, b), rotation.Inverse(a)} {
		l = append(l, r.P, r.Q)
	}
	u, v := rotation.Turn(a, x, y)
	return append(l, parts(rotation.Cosine(a), rotation.Sine(a), u, v)...)
}

// transformed calls every function that takes a Transform, and Shift, and returns all Ints among the results.
func transformed(t, u api.Transform, x, y api.Rational) []api.Int {
	rotation.Equal(t, u)
	v, w := rotation.Act(t, x, y)
	l := parts(v, w)
	for _, r := range []api.Transform{rotation.Shift(x, y), rotation.Compose(t, u), rotation.Back(t)} {
		l = append(l, r.R.P, r.R.Q)
		l = append(l, parts(r.X, r.Y)...)
	}
	return l
}

func parts(l ...api.Rational) []api.Int {
	var ints []api.Int
	for _, x := range l {
		ints = append(ints, x.Num, x.Den)
	}
	return ints
}

// overwrite spoils all the memory that results have, and tells whether none of that spoils another result.
func overwrite(l []api.Int) bool {
	kept := make([]api.Int, len(l))
	for i, x := range l {
		kept[i] = copiedInt(x)
	}
	for i, x := range l {
		if !sameInt(x, kept[i]) {
			return false
		}
		for j := range x.Mag[:cap(x.Mag)] {
			x.Mag[:cap(x.Mag)][j] ^= 0x5a5a5a5a
		}
	}
	return true
}

func TestRotationsShareNothing(t *testing.T) {
	x, y := rational.Of(5, 3), rational.Of(-1, 7)
	for _, a := range samples() {
		for _, b := range samples() {
			c, d := copied(a), copied(b)
			v, w := copiedRational(x), copiedRational(y)
			if !overwrite(rotated(c, d, v, w)) {
				t.Fatalf("results for %v and %v share memory", a, b)
			}
			if !same(a, c) || !same(b, d) || !sameRational(x, v) || !sameRational(y, w) {
				t.Fatalf("arguments %v and %v are changed", a, b)
			}
		}
	}
}

func copiedTransform(t api.Transform) api.Transform {
	return api.Transform{R: copied(t.R), X: copiedRational(t.X), Y: copiedRational(t.Y)}
}

func TestTransformsShareNothing(t *testing.T) {
	for _, a := range transforms() {
		for _, b := range transforms() {
			for _, x := range numbers() {
				c, d := copiedTransform(a), copiedTransform(b)
				y := copiedRational(x)
				if !overwrite(transformed(c, d, y, copiedRational(x))) {
					t.Fatalf("results for %v and %v share memory", a, b)
				}
				if !sameTransform(a, c) || !sameTransform(b, d) || !sameRational(x, y) {
					t.Fatalf("arguments %v and %v are changed", a, b)
				}
			}
		}
	}
}

func TestConstantRotationsShareNothing(t *testing.T) {
	for _, n := range []int{0, 64, 32} {
		for range 2 {
			a, b, c, d := rotation.Of(0, n), rotation.Of(0, n), rotation.Mark(n), rotation.Mark(n)
			wantRot(t, "Of", a, ratio(1, 0, 1))
			wantRot(t, "Mark", c, direction(int64(n/64), int64(n%64)))
			if !overwrite([]api.Int{a.P, a.Q, b.P, b.Q, c.P, c.Q, d.P, d.Q}) {
				t.Fatalf("results for %d share memory", n)
			}
		}
	}
}

// One integer in all places of the arguments, with room behind it that is not theirs.
func TestArgumentsMayOverlap(t *testing.T) {
	for _, r := range samples() {
		memory := append(slices.Clone(r.P.Mag), 0xdeadbeef, 0xcafe)
		n := api.Int{Neg: r.P.Neg, Mag: memory[:len(r.P.Mag)]}
		a, x := api.Rot{P: n, Q: n}, api.Rational{Num: n, Den: n}
		u := api.Transform{R: a, X: x, Y: x}
		got := append(rotated(a, a, x, x), transformed(u, u, x, x)...)
		b, y, v := copied(a), copiedRational(x), copiedTransform(u)
		want := append(rotated(b, copied(b), y, copiedRational(y)), transformed(v, copiedTransform(v), y, copiedRational(y))...)
		if !slices.EqualFunc(got, want, sameInt) {
			t.Fatalf("results for %v are %v", b, got)
		}
		if !overwrite(got) {
			t.Fatalf("results for %v share memory", b)
		}
		if !sameInt(n, b.P) || memory[len(r.P.Mag)] != 0xdeadbeef || memory[len(r.P.Mag)+1] != 0xcafe {
			t.Fatalf("memory of %v is changed", b)
		}
	}
}
