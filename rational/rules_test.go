package rational_test

import (
	"slices"
	"testing"

	"wayfinder/api"
	"wayfinder/rational"
)

// unary and binary call every function that takes a Rational, and return all Ints among the results.

func unary(x api.Rational) []api.Int {
	rational.Sign(x)
	rational.Text(x)
	w, _ := rational.Whole(x)
	return append(parts(rational.New(x.Num, x.Den), rational.Norm(x), rational.Neg(x)), w, rational.Floor(x))
}

func binary(a, b api.Rational) []api.Int {
	rational.Cmp(a, b)
	q, _ := rational.Div(a, b)
	s, _ := rational.Simplest(a, b)
	return parts(rational.Add(a, b), rational.Sub(a, b), rational.Mul(a, b), q, s)
}

func withIntervals(a, b api.Interval, x api.Rational) []api.Int {
	rational.Has(a, x)
	p, _ := rational.Plus(a, b)
	q, _ := rational.Times(a, b)
	m, _ := rational.Meet(a, b)
	return parts(p.Lo, p.Hi, q.Lo, q.Hi, m.Lo, m.Hi)
}

func parts(l ...api.Rational) []api.Int {
	var ints []api.Int
	for _, x := range l {
		ints = append(ints, x.Num, x.Den)
	}
	return ints
}

// overwrite spoils all the memory that results have, and tells whether none of that spoils another result.
func overwrite(l []api.Int) bool {
	kept := make([]api.Int, len(l))
	for i, x := range l {
		kept[i] = copiedInt(x)
	}
	for i, x := range l {
		if !sameInt(x, kept[i]) {
			return false
		}
		for j := range x.Mag[:cap(x.Mag)] {
			x.Mag[:cap(x.Mag)][j] ^= 0x5a5a5a5a
		}
	}
	return true
}

func TestArgumentsAndResultsShareNothing(t *testing.T) {
	l := samples()
	for _, a := range l {
		for _, b := range l {
			x, y := copied(a), copied(b)
			if !overwrite(append(unary(x), binary(x, y)...)) {
				t.Fatalf("results for %v and %v share memory", a, b)
			}
			if !same(x, a) || !same(y, b) {
				t.Fatalf("arguments %v and %v are changed", a, b)
			}
		}
	}
}

func TestIntervalsShareNothing(t *testing.T) {
	for _, a := range intervals() {
		for _, b := range intervals() {
			x, y := interval(copied(a.Lo), copied(a.Hi)), interval(copied(b.Lo), copied(b.Hi))
			if !overwrite(withIntervals(x, y, x.Lo)) {
				t.Fatalf("results for %v and %v share memory", a, b)
			}
			if !same(x.Lo, a.Lo) || !same(x.Hi, a.Hi) || !same(y.Lo, b.Lo) || !same(y.Hi, b.Hi) {
				t.Fatalf("arguments %v and %v are changed", a, b)
			}
		}
	}
}

// One number as all arguments, and arguments with room behind them that is not theirs.
func TestArgumentsMayOverlap(t *testing.T) {
	for _, x := range samples() {
		memory := append(slices.Clone(x.Num.Mag), 0xdeadbeef, 0xcafe)
		n := api.Int{Neg: x.Num.Neg, Mag: memory[:len(x.Num.Mag)]}
		y := literal(n, n)
		a := interval(y, y)
		got := append(append(unary(y), binary(y, y)...), withIntervals(a, a, y)...)
		z := literal(copiedInt(x.Num), copiedInt(x.Num))
		b := interval(copied(z), copied(z))
		want := append(append(unary(z), binary(z, copied(z))...), withIntervals(b, b, z)...)
		if !slices.EqualFunc(got, want, sameInt) {
			t.Fatalf("results for %v are %v", z, got)
		}
		if !overwrite(got) {
			t.Fatalf("results for %v share memory", z)
		}
		if memory[len(x.Num.Mag)] != 0xdeadbeef || memory[len(x.Num.Mag)+1] != 0xcafe {
			t.Fatalf("memory behind %v is changed", x)
		}
	}
}

func TestParsedNumbersShareNothing(t *testing.T) {
	for _, s := range []string{"0", "1", "-7", "1/2", "-18446744073709551616/3"} {
		x, _ := rational.Parse(s)
		y, _ := rational.Parse(s)
		if !overwrite(append(parts(x, y, rational.Of(1, 1), rational.Of(1, 1)), parts(rational.Of(0, 1))...)) {
			t.Fatalf("results for %s share memory", s)
		}
	}
}
