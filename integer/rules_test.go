package integer_test

import (
	"slices"
	"testing"

	"wayfinder/api"
	"wayfinder/integer"
)

// unary and binary call every function that takes an Int, and return the Ints among the results.

func unary(x api.Int) []api.Int {
	integer.Small(x)
	integer.Sign(x)
	integer.Bits(x)
	integer.Text(x)
	s, _ := integer.Sqrt(x)
	return []api.Int{integer.Norm(x), integer.Neg(x), integer.Abs(x), s}
}

func binary(a, b api.Int) []api.Int {
	integer.Cmp(a, b)
	q, r, _ := integer.DivMod(a, b)
	return []api.Int{integer.Add(a, b), integer.Sub(a, b), integer.Mul(a, b), q, r, integer.Gcd(a, b)}
}

// overwrite spoils all the memory that results have, and tells whether that spoils another result.
func overwrite(l []api.Int) bool {
	kept := make([]api.Int, len(l))
	for i, x := range l {
		kept[i] = copied(x)
	}
	for i, x := range l {
		if !same(x, kept[i]) {
			return false
		}
		for j := range x.Mag[:cap(x.Mag)] {
			x.Mag[:cap(x.Mag)][j] ^= 0x5a5a5a5a
		}
	}
	return true
}

func TestArgumentsAndResultsShareNothing(t *testing.T) {
	l := samples()
	for _, a := range l {
		for _, b := range append(l, a) {
			x, y := copied(a), copied(b)
			if !overwrite(append(unary(x), binary(x, y)...)) {
				t.Fatalf("results for %v and %v share memory", a, b)
			}
			if !same(x, a) || !same(y, b) {
				t.Fatalf("arguments %v and %v are changed", a, b)
			}
		}
	}
}

// One object as both arguments, and arguments with room behind them that is not theirs.
func TestArgumentsMayOverlap(t *testing.T) {
	for _, x := range samples() {
		memory := append(slices.Clone(x.Mag), 0xdeadbeef, 0xcafe)
		y := api.Int{Neg: x.Neg, Mag: memory[:len(x.Mag)]}
		got := append(unary(y), binary(y, y)...)
		want := append(unary(copied(x)), binary(copied(x), copied(x))...)
		for i := range want {
			if !same(got[i], want[i]) {
				t.Fatalf("result %d for %v twice is %v", i, x, got[i])
			}
		}
		if memory[len(x.Mag)] != 0xdeadbeef || memory[len(x.Mag)+1] != 0xcafe {
			t.Fatalf("memory behind %v is changed", x)
		}
	}
}
