package segment_test

import (
	"math/big"
	"testing"

	"wayfinder/api"
	"wayfinder/segment"
)

// P5.1

func TestValidRect(t *testing.T) {
	for _, r := range []api.Rect{{}, rect(0, 0, 1, 0), rect(0, 0, 0, 1), rect(-3, -2, 5, 7), rect(-most, -most, most, most), rect(most, most, most, most), rect(-most, -most, -most, -most)} {
		if !segment.ValidRect(r) {
			t.Errorf("%v is valid", r)
		}
	}
	for _, r := range badRects() {
		if segment.ValidRect(r) {
			t.Errorf("%v is not valid", r)
		}
	}
}

func TestGap(t *testing.T) {
	o := point(0, 0)
	for _, c := range []struct {
		p    api.Point
		r    api.Rect
		want int
	}{
		{o, rect(3, 4, 9, 9), 25}, {o, rect(-9, 4, -3, 9), 25}, {o, rect(-9, -9, -3, -4), 25}, {o, rect(3, -9, 9, -4), 25},
		{o, rect(3, -1, 9, 1), 9}, {o, rect(-9, -1, -3, 0), 9}, {o, rect(0, 4, 1, 9), 16}, {o, rect(-1, -9, 1, -4), 16},
		{o, rect(-1, -1, 1, 1), 0}, {o, rect(0, 0, 0, 0), 0}, {o, rect(0, 0, 5, 5), 0}, {point(5, 5), rect(0, 0, 5, 5), 0}, {point(6, 5), rect(0, 0, 5, 5), 1},
		{point(-most, -most), rect(most, most, most, most), 1 << 45}, {point(most, -most), rect(-most, 0, -most, most), 1<<44 + 1<<42},
	} {
		if got := segment.Gap(c.p, c.r); got != c.want {
			t.Errorf("Gap(%v, %v) is %d", c.p, c.r, got)
		}
	}
	for _, p := range badPoints() {
		if segment.Gap(p, rect(3, 4, 9, 9)) != 0 {
			t.Errorf("Gap of %v", p)
		}
	}
	for _, r := range badRects() {
		if segment.Gap(point(-77, 88), r) != 0 {
			t.Errorf("Gap of %v", r)
		}
	}
}

func TestGapIsLeast(t *testing.T) {
	var s source
	for range 1000 {
		p, r := s.point(12), s.rect(8)
		want := 1 << 40
		for x := r.X0; x <= r.X1; x++ {
			for y := r.Y0; y <= r.Y1; y++ {
				want = min(want, (x-p.X)*(x-p.X)+(y-p.Y)*(y-p.Y))
			}
		}
		if got := segment.Gap(p, r); got != want {
			t.Fatalf("Gap(%v, %v) is %d, not %d", p, r, got, want)
		}
	}
}

// side calculates Turn for valid points with integers that don't wrap around.
func side(p, q, r api.Point) int {
	times := func(a, b int) *big.Int { return new(big.Int).Mul(big.NewInt(int64(a)), big.NewInt(int64(b))) }
	return times(q.X-p.X, r.Y-p.Y).Cmp(times(q.Y-p.Y, r.X-p.X))
}

func TestTurn(t *testing.T) {
	for _, c := range []struct {
		p, q, r api.Point
		want    int
	}{
		{point(0, 0), point(1, 0), point(0, 1), 1}, {point(0, 0), point(1, 0), point(0, -1), -1}, {point(0, 0), point(1, 0), point(7, 0), 0},
		{point(0, 0), point(1, 0), point(-7, 0), 0}, {point(0, 0), point(0, 0), point(3, 5), 0}, {point(2, 3), point(2, 3), point(2, 3), 0},
		{point(1, 1), point(4, 3), point(7, 5), 0}, {point(1, 1), point(4, 3), point(7, 6), 1}, {point(1, 1), point(4, 3), point(8, 5), -1},
		{point(-most, -most), point(most, most-1), point(most-1, most-2), -1}, {point(-most, -most), point(most, most-1), point(most-1, most-1), 1},
		{point(-most, -most), point(most, -most), point(-most, most), 1}, {point(-most, most), point(most, -most), point(-most, -most), -1},
	} {
		if got := segment.Turn(c.p, c.q, c.r); got != c.want {
			t.Errorf("Turn(%v, %v, %v) is %d", c.p, c.q, c.r, got)
		}
	}
	var s source
	for range 3000 {
		for _, size := range []int{3, 1000, most} {
			p, q, r := s.point(size), s.point(size), s.point(size)
			if got := segment.Turn(p, q, r); got != side(p, q, r) {
				t.Fatalf("Turn(%v, %v, %v) is %d", p, q, r, got)
			}
		}
	}
	for _, b := range badPoints() {
		if segment.Turn(b, point(1, 0), point(5, 7)) != 0 || segment.Turn(point(1, 0), b, point(5, 7)) != 0 || segment.Turn(point(1, 0), point(5, 7), b) != 0 {
			t.Errorf("Turn with %v", b)
		}
	}
}

func TestCrossExamples(t *testing.T) {
	for _, c := range []struct {
		p, q, a, b api.Point
		want       bool
	}{
		{point(0, 0), point(2, 2), point(0, 2), point(2, 0), true},
		{point(0, 0), point(2, 2), point(2, 2), point(5, 0), true},
		{point(0, 0), point(4, 4), point(2, 2), point(5, 0), true},
		{point(0, 0), point(2, 2), point(3, 3), point(5, 5), false},
		{point(0, 0), point(3, 3), point(3, 3), point(5, 5), true},
		{point(0, 0), point(9, 9), point(5, 5), point(3, 3), true},
		{point(0, 0), point(5, 0), point(6, 0), point(9, 0), false},
		{point(0, 0), point(5, 5), point(0, 1), point(5, 6), false},
		{point(0, 0), point(2, 2), point(5, 0), point(2, 1), false},
		{point(0, 0), point(9, 9), point(8, 0), point(5, 4), false},
		{point(0, 0), point(4, 2), point(2, 1), point(2, 1), true},
		{point(0, 0), point(4, 2), point(2, 2), point(2, 2), false},
		{point(0, 0), point(4, 2), point(6, 3), point(6, 3), false},
		{point(7, 7), point(7, 7), point(7, 7), point(7, 7), true},
		{point(7, 7), point(7, 7), point(7, 8), point(7, 8), false},
		{point(-most, -most), point(most, most), point(-most, most), point(most, -most), true},
		{point(-most, -most), point(most, most-1), point(0, 0), point(0, most), false},
		{point(-most, -most), point(most, most-1), point(0, -1), point(0, most), true},
		{point(-most, -most), point(most, most-1), point(most-1, most-1), point(0, most), false},
		{point(-most, -most), point(most, most-1), point(most-1, most-2), point(0, most), true},
	} {
		for _, l := range [][4]api.Point{{c.p, c.q, c.a, c.b}, {c.q, c.p, c.a, c.b}, {c.a, c.b, c.p, c.q}, {c.b, c.a, c.q, c.p}} {
			if got := segment.Cross(l[0], l[1], l[2], l[3]); got != c.want {
				t.Errorf("Cross of %v is %t", l, got)
			}
		}
	}
	o, l := point(0, 0), point(9, 9)
	for _, b := range badPoints() {
		if segment.Cross(b, l, o, l) || segment.Cross(l, b, o, l) || segment.Cross(o, l, b, l) || segment.Cross(o, l, l, b) || segment.Cross(b, b, b, b) {
			t.Errorf("Cross with %v", b)
		}
	}
}

func TestCross(t *testing.T) {
	// All segments of a small grid.
	const size = 4
	at := func(n int) api.Point { return point(n%size, n/size) }
	for i := range size * size {
		for j := range size * size {
			for k := range size * size {
				for l := range size * size {
					p, q, a, b := at(i), at(j), at(k), at(l)
					if got := segment.Cross(p, q, a, b); got != common(p, q, a, b) {
						t.Fatalf("Cross(%v, %v, %v, %v) is %t", p, q, a, b, got)
					}
				}
			}
		}
	}
	var s source
	for range 3000 {
		for _, size := range []int{9, 1000, most} {
			p, q, a, b := s.point(size), s.point(size), s.point(size), s.point(size)
			if got := segment.Cross(p, q, a, b); got != common(p, q, a, b) {
				t.Fatalf("Cross(%v, %v, %v, %v) is %t", p, q, a, b, got)
			}
		}
	}
}

func TestMinus(t *testing.T) {
	half := most / 2
	for _, c := range []struct {
		q, r, want api.Rect
		ok         bool
	}{
		{rect(10, 10, 20, 20), rect(1, 2, 3, 4), rect(7, 6, 19, 18), true},
		{rect(0, 0, 0, 0), rect(0, 0, 0, 0), rect(0, 0, 0, 0), true},
		{rect(5, -7, 5, -7), rect(5, -7, 5, -7), rect(0, 0, 0, 0), true},
		{rect(0, 0, 0, 0), rect(-3, -4, 1, 2), rect(-1, -2, 3, 4), true},
		{rect(-half, -half, half, half), rect(-half, -half, half, half), rect(-most, -most, most, most), true},
		{rect(most, most, most, most), rect(0, 0, most, most), rect(0, 0, most, most), true},
		// Each coordinate is too great, by one.
		{rect(-half, 0, half, 0), rect(0, 0, half+1, 0), rect(0, 0, 0, 0), false},
		{rect(0, -half, 0, half), rect(0, 0, 0, half+1), rect(0, 0, 0, 0), false},
		{rect(-half, 0, half, 0), rect(-half-1, 0, 0, 0), rect(0, 0, 0, 0), false},
		{rect(0, -half, 0, half), rect(0, -half-1, 0, 0), rect(0, 0, 0, 0), false},
		{rect(-most, -most, most, most), rect(-most, -most, most, most), rect(0, 0, 0, 0), false},
	} {
		if got, ok := segment.Minus(c.q, c.r); got != c.want || ok != c.ok {
			t.Errorf("Minus(%v, %v) is %v, %t", c.q, c.r, got, ok)
		}
	}
	for _, r := range badRects() {
		for _, c := range [][2]api.Rect{{r, rect(0, 0, 5, 5)}, {rect(0, 0, 5, 5), r}, {r, r}} {
			if got, ok := segment.Minus(c[0], c[1]); ok || got != rect(0, 0, 0, 0) {
				t.Errorf("Minus(%v, %v) is %v, %t", c[0], c[1], got, ok)
			}
		}
	}
}

func TestMinusIsAllDifferences(t *testing.T) {
	var s source
	for range 500 {
		q, r := s.rect(6), s.rect(6)
		m, ok := segment.Minus(q, r)
		seen := map[api.Point]bool{}
		for x := r.X0; x <= r.X1; x++ {
			for y := r.Y0; y <= r.Y1; y++ {
				for _, a := range []int{q.X0, q.X1} {
					for _, b := range []int{q.Y0, q.Y1} {
						d := point(a-x, b-y)
						seen[d] = true
						if segment.Gap(d, m) != 0 {
							t.Fatalf("%v is not in Minus(%v, %v)", d, q, r)
						}
					}
				}
			}
		}
		if !ok || !seen[point(m.X0, m.Y0)] || !seen[point(m.X1, m.Y1)] {
			t.Fatalf("Minus(%v, %v) is %v, %t", q, r, m, ok)
		}
	}
}

// P5.3

// scene is arguments for all functions.
type scene struct {
	p, q, a, b api.Point
	v          api.Vector
	r, s       api.Rect
	lo, hi     int
}

// results are what the functions return for a scene.
type results struct {
	in, out        api.Fraction
	enters, leaves bool
	meets, before  bool
	gap            int
	touch, cross   bool
	minus          api.Rect
	differs        bool
}

func (c scene) results() results {
	var l results
	l.in, l.enters = segment.Enter(c.p, c.v, c.r)
	l.out, l.leaves = segment.Leave(c.p, c.v, c.r)
	l.meets = segment.Meets(c.p, c.v, c.lo, c.hi, c.r)
	l.before = segment.Before(c.p, c.v, c.hi, c.r)
	l.gap = segment.Gap(c.p, c.r)
	l.touch = segment.Touch(c.p, c.q, c.r, c.hi)
	l.cross = segment.Cross(c.p, c.q, c.a, c.b)
	l.minus, l.differs = segment.Minus(c.r, c.s)
	return l
}

func (c scene) moved(x, y int) scene {
	c.p, c.q, c.a, c.b = moved(c.p, x, y), moved(c.q, x, y), moved(c.a, x, y), moved(c.b, x, y)
	c.r, c.s = movedRect(c.r, x, y), movedRect(c.s, x, y)
	return c
}

func (c scene) swapped() scene {
	c.p, c.q, c.a, c.b = swapped(c.p), swapped(c.q), swapped(c.a), swapped(c.b)
	c.r, c.s, c.v = swappedRect(c.r), swappedRect(c.s), swappedVector(c.v)
	return c
}

func TestMovedAndSwapped(t *testing.T) {
	var s source
	vectors := append(few(), long()...)
	for range 5000 {
		c := scene{s.point(50), s.point(50), s.point(50), s.point(50), s.vector(vectors), s.rect(50), s.rect(50), s.next(0, 30), s.next(0, 60)}
		want := c.results()
		turn := segment.Turn(c.p, c.q, c.a)
		for _, way := range []api.Point{s.point(1000), s.point(most - 50), point(most-50, 50-most)} {
			m := c.moved(way.X, way.Y)
			if got := m.results(); got != want || segment.Turn(m.p, m.q, m.a) != turn {
				t.Fatalf("%v moved by %v: %v, not %v", c, way, got, want)
			}
		}
		m := c.swapped()
		want.minus = swappedRect(want.minus)
		if got := m.results(); got != want || segment.Turn(m.p, m.q, m.a) != -turn {
			t.Fatalf("%v with x and y exchanged: %v, not %v", c, got, want)
		}
	}
}
