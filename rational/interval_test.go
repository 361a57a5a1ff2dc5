package rational_test

import (
	"math/big"
	"testing"

	"wayfinder/api"
	"wayfinder/rational"
)

// intervals are such of every kind: empty ones, single numbers, below, around and above 0, with ends that are not canonical.
func intervals() []api.Interval {
	ends := []api.Rational{{}, over(-3, 1), over(4, -2), over(-1, 2), over(2, 0), over(1, 3), over(-6, -4), over(7, 2), literal(whole(false, 1, 2), whole(false, 3, 0))}
	var l []api.Interval
	for _, lo := range ends {
		for _, hi := range ends {
			l = append(l, interval(lo, hi))
		}
	}
	return l
}

func noNumbers(a api.Interval) bool {
	return valueOf(a.Lo).Cmp(valueOf(a.Hi)) > 0
}

func wantInterval(t *testing.T, what string, got api.Interval, lo, hi *big.Rat) {
	t.Helper()
	wantRat(t, what+", Lo", got.Lo, lo)
	wantRat(t, what+", Hi", got.Hi, hi)
}

func least(l ...*big.Rat) *big.Rat {
	x := l[0]
	for _, y := range l[1:] {
		if y.Cmp(x) < 0 {
			x = y
		}
	}
	return x
}

func greatest(l ...*big.Rat) *big.Rat {
	x := l[0]
	for _, y := range l[1:] {
		if y.Cmp(x) > 0 {
			x = y
		}
	}
	return x
}

func product(a, b api.Rational) *big.Rat {
	return new(big.Rat).Mul(valueOf(a), valueOf(b))
}

// P2.1

func TestPlus(t *testing.T) {
	for _, a := range intervals() {
		for _, b := range intervals() {
			got, e := rational.Plus(a, b)
			if noNumbers(a) || noNumbers(b) {
				wantError(t, "Plus", e, api.ErrRange)
				wantNothing(t, "Plus", got.Lo, got.Hi)
				continue
			}
			wantError(t, "Plus", e, api.OK)
			wantInterval(t, "Plus", got, new(big.Rat).Add(valueOf(a.Lo), valueOf(b.Lo)), new(big.Rat).Add(valueOf(a.Hi), valueOf(b.Hi)))
		}
	}
}

func TestTimes(t *testing.T) {
	for _, a := range intervals() {
		for _, b := range intervals() {
			got, e := rational.Times(a, b)
			if noNumbers(a) || noNumbers(b) {
				wantError(t, "Times", e, api.ErrRange)
				wantNothing(t, "Times", got.Lo, got.Hi)
				continue
			}
			wantError(t, "Times", e, api.OK)
			p := []*big.Rat{product(a.Lo, b.Lo), product(a.Lo, b.Hi), product(a.Hi, b.Lo), product(a.Hi, b.Hi)}
			wantInterval(t, "Times", got, least(p...), greatest(p...))
		}
	}
	got, e := rational.Times(interval(over(-1, 1), over(2, 1)), interval(over(-3, 1), over(1, 1)))
	wantError(t, "Times", e, api.OK)
	wantInterval(t, "Times", got, big.NewRat(-6, 1), big.NewRat(3, 1))
	// The squares would start at 0, but the factors are two numbers.
	a := interval(over(-1, 1), over(2, 1))
	got, e = rational.Times(a, a)
	wantError(t, "Times", e, api.OK)
	wantInterval(t, "Times", got, big.NewRat(-2, 1), big.NewRat(4, 1))
}

func TestHas(t *testing.T) {
	for _, a := range intervals() {
		for _, x := range few() {
			v := valueOf(x)
			want := valueOf(a.Lo).Cmp(v) <= 0 && v.Cmp(valueOf(a.Hi)) <= 0
			if got := rational.Has(a, x); got != want {
				t.Fatalf("Has(%v, %v) is %t", a, x, got)
			}
		}
		if !noNumbers(a) && (!rational.Has(a, a.Lo) || !rational.Has(a, a.Hi)) {
			t.Fatalf("%v has no ends", a)
		}
	}
	a := interval(over(1, 3), over(1, 2))
	for _, x := range []api.Rational{over(33, 100), over(51, 100), over(-2, 5), over(2, 0)} {
		if rational.Has(a, x) {
			t.Errorf("%v is not from 1/3 to 1/2", x)
		}
	}
	if !rational.Has(a, over(-4, -10)) || !rational.Has(a, over(2, 6)) || !rational.Has(a, over(2, 4)) {
		t.Error("numbers from 1/3 to 1/2")
	}
	// The interval with zero fields is 0 to 0.
	if !rational.Has(api.Interval{}, api.Rational{}) || rational.Has(api.Interval{}, over(1, 9)) {
		t.Error("numbers from 0 to 0")
	}
}

func TestMeet(t *testing.T) {
	for _, a := range intervals() {
		for _, b := range intervals() {
			lo, hi := greatest(valueOf(a.Lo), valueOf(b.Lo)), least(valueOf(a.Hi), valueOf(b.Hi))
			got, ok := rational.Meet(a, b)
			if ok != (lo.Cmp(hi) <= 0) {
				t.Fatalf("Meet(%v, %v) reports %t", a, b, ok)
			}
			if !ok {
				wantNothing(t, "Meet", got.Lo, got.Hi)
				continue
			}
			wantInterval(t, "Meet", got, lo, hi)
			for _, x := range few() {
				if rational.Has(got, x) != (rational.Has(a, x) && rational.Has(b, x)) {
					t.Fatalf("%v in Meet(%v, %v)", x, a, b)
				}
			}
		}
	}
}

func TestMeetEdges(t *testing.T) {
	low, high := interval(over(0, 1), over(1, 2)), interval(over(2, 4), over(3, 1))
	got, ok := rational.Meet(low, high)
	if !ok {
		t.Error("the intervals share an end")
	}
	wantInterval(t, "Meet", got, big.NewRat(1, 2), big.NewRat(1, 2))
	if got, ok = rational.Meet(low, interval(over(51, 100), over(3, 1))); ok {
		t.Error("the intervals are apart")
	}
	wantNothing(t, "Meet", got.Lo, got.Hi)
	// Empty, though the ends of each lie in the other one.
	if got, ok = rational.Meet(interval(over(2, 1), over(1, 1)), interval(over(0, 1), over(3, 1))); ok {
		t.Error("one interval is empty")
	}
	wantNothing(t, "Meet", got.Lo, got.Hi)
}

// P2.6

// inside returns numbers of a: both ends and some between them.
func inside(a api.Interval) []api.Rational {
	width := rational.Sub(a.Hi, a.Lo)
	var l []api.Rational
	for n := range 5 {
		l = append(l, rational.Add(a.Lo, rational.Mul(width, over(n, 4))))
	}
	return l
}

func TestPlusTimesContain(t *testing.T) {
	for _, a := range intervals() {
		for _, b := range intervals() {
			if noNumbers(a) || noNumbers(b) {
				continue
			}
			sums, e := rational.Plus(a, b)
			wantError(t, "Plus", e, api.OK)
			products, e := rational.Times(a, b)
			wantError(t, "Times", e, api.OK)
			for _, x := range inside(a) {
				for _, y := range inside(b) {
					if !rational.Has(sums, rational.Add(x, y)) || !rational.Has(products, rational.Mul(x, y)) {
						t.Fatalf("%v and %v, of %v and %v", x, y, a, b)
					}
				}
			}
		}
	}
}

func TestPlusTimesEnds(t *testing.T) {
	for _, a := range intervals() {
		for _, b := range intervals() {
			if noNumbers(a) || noNumbers(b) {
				continue
			}
			sums, _ := rational.Plus(a, b)
			products, _ := rational.Times(a, b)
			var hits [4]bool
			for _, x := range []api.Rational{a.Lo, a.Hi} {
				for _, y := range []api.Rational{b.Lo, b.Hi} {
					s, p := rational.Add(x, y), rational.Mul(x, y)
					hits[0] = hits[0] || same(s, sums.Lo)
					hits[1] = hits[1] || same(s, sums.Hi)
					hits[2] = hits[2] || same(p, products.Lo)
					hits[3] = hits[3] || same(p, products.Hi)
				}
			}
			if hits != [4]bool{true, true, true, true} {
				t.Fatalf("an end for %v and %v is no sum or product of ends", a, b)
			}
		}
	}
}
