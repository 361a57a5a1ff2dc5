package segment_test

import (
	"math"
	"math/big"
	"testing"

	"wayfinder/api"
	"wayfinder/segment"
)

// exact is the value of a fraction, which must be in lowest terms with a positive D.
func exact(t *testing.T, f api.Fraction) *big.Rat {
	t.Helper()
	if f.D <= 0 || new(big.Int).GCD(nil, nil, big.NewInt(int64(max(f.N, -f.N))), big.NewInt(int64(f.D))).Cmp(big.NewInt(1)) != 0 {
		t.Fatalf("%v is not in lowest terms", f)
	}
	return rat(f.N, f.D)
}

// wantVisit demands the distances from least to greatest; none if both are nil.
func wantVisit(t *testing.T, p api.Point, v api.Vector, r api.Rect, least, greatest *big.Rat) {
	t.Helper()
	in, ok := segment.Enter(p, v, r)
	out, also := segment.Leave(p, v, r)
	if least == nil {
		if ok || also || in != fraction(0, 0) || out != fraction(0, 0) {
			t.Fatalf("from %v along %v, %v: %v, %t and %v, %t", p, v, r, in, ok, out, also)
		}
		return
	}
	if !ok || !also || exact(t, in).Cmp(least) != 0 || exact(t, out).Cmp(greatest) != 0 {
		t.Fatalf("from %v along %v, %v: %v, %t and %v, %t, not %v and %v", p, v, r, in, ok, out, also, least, greatest)
	}
}

// wantRange demands that Meets and Before agree with the distances from least to greatest.
func wantRange(t *testing.T, p api.Point, v api.Vector, r api.Rect, least, greatest *big.Rat, lo, hi int) {
	t.Helper()
	some := least != nil
	meets := some && least.Cmp(rat(hi, 1)) <= 0 && greatest.Cmp(rat(lo, 1)) >= 0
	if got := segment.Meets(p, v, lo, hi, r); got != meets {
		t.Fatalf("from %v along %v, %v: Meets from %d to %d is %t", p, v, r, lo, hi, got)
	}
	before := some && least.Cmp(rat(hi, 1)) < 0
	if got := segment.Before(p, v, hi, r); got != before {
		t.Fatalf("from %v along %v, %v: Before %d is %t", p, v, r, hi, got)
	}
}

// P5.1

func TestVisitExamples(t *testing.T) {
	o, a := point(0, 0), vector(3, 4, 5)
	none := fraction(0, 0)
	for _, c := range []struct {
		p       api.Point
		v       api.Vector
		r       api.Rect
		in, out api.Fraction
	}{
		{o, a, rect(6, 0, 9, 20), fraction(10, 1), fraction(15, 1)},
		{o, vector(6, 8, 10), rect(6, 0, 9, 20), fraction(10, 1), fraction(15, 1)},
		{point(-100, 50), a, rect(-94, 50, -91, 70), fraction(10, 1), fraction(15, 1)},
		{o, a, rect(1, 0, 2, 20), fraction(5, 3), fraction(10, 3)},
		// It starts in the rectangle, on an edge, and in a corner.
		{o, a, rect(-5, -5, 3, 3), fraction(0, 1), fraction(15, 4)},
		{o, a, rect(0, -5, 3, 5), fraction(0, 1), fraction(5, 1)},
		{o, a, rect(-5, -5, 0, 0), fraction(0, 1), fraction(0, 1)},
		{o, vector(-3, -4, 5), rect(0, 0, 7, 7), fraction(0, 1), fraction(0, 1)},
		// It meets a corner alone, a point, and a rectangle without a breadth.
		{o, a, rect(3, 0, 10, 4), fraction(5, 1), fraction(5, 1)},
		{o, a, rect(6, 8, 6, 8), fraction(10, 1), fraction(10, 1)},
		{o, a, rect(1, 0, 1, 9), fraction(5, 3), fraction(5, 3)},
		// Along an edge.
		{o, vector(1, 0, 1), rect(5, 0, 9, 3), fraction(5, 1), fraction(9, 1)},
		{o, vector(1, 0, 1), rect(5, -3, 9, 0), fraction(5, 1), fraction(9, 1)},
		{o, vector(0, -2, 2), rect(0, -9, 0, -5), fraction(5, 1), fraction(9, 1)},
		// Behind the start, and beside the ray.
		{o, a, rect(-9, -20, -6, 0), none, none},
		{o, a, rect(-9, -9, -1, -1), none, none},
		{o, vector(1, 0, 1), rect(5, 1, 9, 3), none, none},
		{o, vector(1, 0, 1), rect(5, -3, 9, -1), none, none},
		{o, vector(0, 1, 1), rect(1, 5, 3, 9), none, none},
		{o, a, rect(3, 5, 3, 9), none, none},
		{o, a, rect(6, 7, 6, 7), none, none},
	} {
		in, ok := segment.Enter(c.p, c.v, c.r)
		out, also := segment.Leave(c.p, c.v, c.r)
		if some := c.in != none; in != c.in || out != c.out || ok != some || also != some {
			t.Errorf("from %v along %v, %v: %v, %t and %v, %t", c.p, c.v, c.r, in, ok, out, also)
		}
	}
}

func TestRangeExamples(t *testing.T) {
	p, v, r := point(0, 0), vector(3, 4, 5), rect(6, 0, 9, 20)
	for _, c := range []struct {
		lo, hi        int
		meets, before bool
	}{
		{15, 20, true, true}, {0, 10, true, false}, {0, 9, false, false}, {16, 20, false, true}, {10, 10, true, false}, {10, 11, true, true},
		{15, 15, true, true}, {12, 13, true, true}, {0, 65536, true, true}, {0, 0, false, false}, {65536, 65536, false, true},
		// Not permitted.
		{0, 65537, false, false}, {-1, 20, false, true}, {13, 12, false, true}, {-2, -1, false, false}, {math.MinInt, math.MaxInt, false, false},
		{12, math.MaxInt, false, false}, {math.MaxInt, 12, false, true}, {0, math.MinInt, false, false},
	} {
		if got := segment.Meets(p, v, c.lo, c.hi, r); got != c.meets {
			t.Errorf("Meets from %d to %d is %t", c.lo, c.hi, got)
		}
		if got := segment.Before(p, v, c.hi, r); got != c.before {
			t.Errorf("Before %d is %t", c.hi, got)
		}
	}
	// At the start, and just before and behind the distances 5/3 and 10/3.
	if !segment.Meets(p, v, 0, 0, rect(0, 0, 1, 1)) || segment.Before(p, v, 0, rect(0, 0, 1, 1)) || !segment.Before(p, v, 1, rect(0, 0, 1, 1)) {
		t.Error("at the start")
	}
	narrow := rect(1, 0, 2, 20)
	if segment.Meets(p, v, 0, 1, narrow) || !segment.Meets(p, v, 0, 2, narrow) || !segment.Meets(p, v, 3, 9, narrow) || segment.Meets(p, v, 4, 9, narrow) {
		t.Error("at distances between the integers")
	}
	if segment.Before(p, v, 1, narrow) || !segment.Before(p, v, 2, narrow) {
		t.Error("before a distance between the integers")
	}
	// The greatest distance that may be given.
	far := rect(65536, 0, 65536, 0)
	if !segment.Meets(p, vector(1, 0, 1), 65536, 65536, far) || segment.Before(p, vector(1, 0, 1), 65536, far) {
		t.Error("at the distance 65536")
	}
}

func TestRaysInvalid(t *testing.T) {
	type ray struct {
		p api.Point
		v api.Vector
		r api.Rect
	}
	good := ray{point(5, 5), vector(3, 4, 5), rect(0, 0, 99, 99)}
	l := []ray{{point(0, 0), vector(0, 0, 0), rect(0, 0, 0, 0)}}
	for _, p := range badPoints() {
		l = append(l, ray{p, good.v, good.r}, ray{p, good.v, rect(p.X, p.Y, p.X, p.Y)})
	}
	for _, v := range badVectors() {
		l = append(l, ray{good.p, v, good.r})
	}
	for _, r := range badRects() {
		l = append(l, ray{good.p, good.v, r}, ray{point(0, 0), good.v, r})
	}
	for _, c := range l {
		wantVisit(t, c.p, c.v, c.r, nil, nil)
		wantRange(t, c.p, c.v, c.r, nil, nil, 0, 65536)
	}
	if !segment.Meets(good.p, good.v, 0, 65536, good.r) || !segment.Before(good.p, good.v, 65536, good.r) {
		t.Error("the valid ray")
	}
}

func TestVisitSmall(t *testing.T) {
	p := point(1, -2)
	coords := []int{-12, -4, -3, -1, 0, 1, 3, 4, 12}
	for _, v := range few() {
		for i, x0 := range coords {
			for _, x1 := range coords[i:] {
				for j, y0 := range coords {
					for _, y1 := range coords[j:] {
						r := movedRect(rect(x0, y0, x1, y1), p.X, p.Y)
						least, greatest := visited(p, v, r)
						wantVisit(t, p, v, r, least, greatest)
					}
				}
			}
		}
	}
}

func TestVisitLarge(t *testing.T) {
	var s source
	some := 0
	for _, v := range append(long(), few()...) {
		for range 300 {
			p, r := s.point(most), s.rect(most)
			least, greatest := visited(p, v, r)
			if least != nil {
				some++
			}
			wantVisit(t, p, v, r, least, greatest)
			// Near the distances, and among all that may be given.
			for _, d := range []*big.Rat{least, greatest} {
				n := s.next(0, 65536)
				if d != nil && d.Cmp(rat(65535, 1)) < 0 {
					n = int(new(big.Int).Quo(d.Num(), d.Denom()).Int64())
				}
				wantRange(t, p, v, r, least, greatest, n, n+1-n/65536)
				wantRange(t, p, v, r, least, greatest, n/2, n)
			}
		}
	}
	if some < 1000 {
		t.Errorf("only %d rays meet a rectangle", some)
	}
}

// The ends are as far apart as they may be.
func TestVisitAtLimits(t *testing.T) {
	corners := []api.Point{point(-most, -most), point(most, -most), point(-most, most), point(most, most)}
	all := rect(-most, -most, most, most)
	for _, p := range corners {
		for _, v := range append(long(), few()...) {
			for _, c := range append(corners, point(0, 0)) {
				for _, r := range []api.Rect{all, rect(c.X, c.Y, c.X, c.Y), rect(c.X, -most, c.X, most), rect(-most, c.Y, most, c.Y)} {
					least, greatest := visited(p, v, r)
					wantVisit(t, p, v, r, least, greatest)
					wantRange(t, p, v, r, least, greatest, 0, 65536)
				}
			}
		}
	}
	in, ok := segment.Enter(corners[0], vector(54758411, 38795820, 67108861), rect(most, -most, most, most))
	if want := rat(1<<22*67108861, 54758411); !ok || exact(t, in).Cmp(want) != 0 {
		t.Errorf("across everything: %v, %t", in, ok)
	}
}

// P5.2

func TestFromEnterToLeave(t *testing.T) {
	var s source
	some, none := 0, 0
	for _, v := range few() {
		for range 60 {
			p, r := s.point(20), s.rect(20)
			in, ok := segment.Enter(p, v, r)
			out, _ := segment.Leave(p, v, r)
			for n := range 61 {
				d := rat(n, 1)
				x, y := on(p, v, d)
				inside := ok && rat(in.N, in.D).Cmp(d) <= 0 && d.Cmp(rat(out.N, out.D)) <= 0
				if contains(r, x, y) != inside || segment.Meets(p, v, n, n, r) != inside {
					t.Fatalf("from %v along %v, %v, at %d", p, v, r, n)
				}
				if inside {
					some++
				} else {
					none++
				}
				wantRange(t, p, v, r, ratIf(ok, in), ratIf(ok, out), n, n+s.next(0, 9))
			}
		}
	}
	if some < 500 || none < 500 {
		t.Errorf("%d points inside, %d outside", some, none)
	}
}

// ratIf is the value of f, or nil.
func ratIf(ok bool, f api.Fraction) *big.Rat {
	if !ok {
		return nil
	}
	return rat(f.N, f.D)
}

// P5.4

func TestMinusOfRays(t *testing.T) {
	var s source
	o := point(0, 0)
	some, none := 0, 0
	for _, v := range append(few(), vector(5, -12, 13), vector(-8, 15, 17)) {
		for range 300 {
			q, r := s.rect(30), s.rect(30)
			m, ok := segment.Minus(q, r)
			if !ok {
				t.Fatalf("Minus(%v, %v)", q, r)
			}
			lo := s.next(0, 60)
			hi := lo + s.next(0, 30)
			for range 20 {
				p := point(s.next(r.X0, r.X1), s.next(r.Y0, r.Y1))
				if segment.Meets(p, v, lo, hi, q) && !segment.Meets(o, v, lo, hi, m) {
					t.Fatalf("Minus(%v, %v) is %v: from %v along %v, %d to %d", q, r, m, p, v, lo, hi)
				}
			}
			if !segment.Meets(o, v, lo, hi, m) {
				none++
				continue
			}
			some++
			wantStart(t, q, r, v, lo, hi)
		}
	}
	if some < 500 || none < 500 {
		t.Errorf("%d rays meet the difference, %d don't", some, none)
	}
}

// wantStart finds a point of r, not only with integer coordinates, from which the ray in the direction v is in q at some distance from lo to hi, if Minus is right about it. A scale makes its coordinates integers.
func wantStart(t *testing.T, q, r api.Rect, v api.Vector, lo, hi int) {
	t.Helper()
	m, _ := segment.Minus(q, r)
	in, _ := segment.Enter(point(0, 0), v, m)
	s := exact(t, in)
	if s.Cmp(rat(lo, 1)) < 0 {
		s = rat(lo, 1)
	}
	x, y := on(point(0, 0), v, s)
	// The point of r that is nearest to q, moved back by the way of the ray.
	x.Sub(rat(q.X0, 1), x)
	y.Sub(rat(q.Y0, 1), y)
	if x.Cmp(rat(r.X0, 1)) < 0 {
		x = rat(r.X0, 1)
	}
	if y.Cmp(rat(r.Y0, 1)) < 0 {
		y = rat(r.Y0, 1)
	}
	if !contains(r, x, y) {
		t.Fatalf("Minus(%v, %v) is %v: along %v, from (%v, %v)", q, r, m, v, x, y)
	}
	scale := int(x.Denom().Int64() * y.Denom().Int64())
	p := point(times(x, scale), times(y, scale))
	big := rect(q.X0*scale, q.Y0*scale, q.X1*scale, q.Y1*scale)
	if !segment.Meets(p, v, lo*scale, hi*scale, big) {
		t.Fatalf("Minus(%v, %v) is %v: along %v, from (%v, %v), %d to %d", q, r, m, v, x, y, lo, hi)
	}
}

// times is x times n, an integer.
func times(x *big.Rat, n int) int {
	return int(new(big.Rat).Mul(x, rat(n, 1)).Num().Int64())
}
