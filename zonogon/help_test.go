package zonogon_test

import (
	"cmp"
	"math"
	"math/big"
	"slices"
	"testing"

	"wayfinder/api"
)

// The limits of the chapter.
const (
	mostMiddle = 1 << 23
	mostGen    = 1 << 16
	mostLine   = 1 << 21
)

func point(x, y int) api.Point {
	return api.Point{X: x, Y: y}
}

func rect(x0, y0, x1, y1 int) api.Rect {
	return api.Rect{X0: x0, Y0: y0, X1: x1, Y1: y1}
}

func zonogonOf(x2, y2 int, gens ...api.Point) api.Zonogon {
	return api.Zonogon{X2: x2, Y2: y2, Gens: gens}
}

// repeated is a list of n equal generators.
func repeated(n int, g api.Point) []api.Point {
	return slices.Repeat([]api.Point{g}, n)
}

// fan is a list of n generators, no two of which are parallel, in the order of their angles.
func fan(n int) []api.Point {
	l := make([]api.Point, n)
	for i := range l {
		l[i] = point(n-2*i, i+1)
	}
	return l
}

// equal tells whether a and b have the same fields.
func equal(a, b api.Zonogon) bool {
	return a.X2 == b.X2 && a.Y2 == b.Y2 && slices.Equal(a.Gens, b.Gens)
}

// clone is a copy of z that shares no memory with it.
func clone(z api.Zonogon) api.Zonogon {
	return zonogonOf(z.X2, z.Y2, slices.Clone(z.Gens)...)
}

// extremes are integers whose sums, differences, products and negations may wrap around.
var extremes = []int{math.MinInt, math.MinInt + 1, math.MinInt + mostMiddle, -1 << 62, -1 << 48, -1 << 32, 1 << 32, 1 << 48, 1 << 62, math.MaxInt - mostMiddle, math.MaxInt - 1, math.MaxInt}

// beyond are integers that are too great for a limit.
func beyond(limit int) []int {
	return append([]int{limit + 1, -limit - 1, 2 * limit, -2 * limit}, extremes...)
}

// smallZonogons are valid zonogons with small coordinates: points, segments, and others, with generators of all kinds.
func smallZonogons() []api.Zonogon {
	return []api.Zonogon{
		zonogonOf(0, 0), zonogonOf(3, -5), zonogonOf(4, 2, point(0, 0)), zonogonOf(-1, 1, point(0, 0), point(0, 0), point(0, 0)),
		zonogonOf(0, 0, point(3, 0)), zonogonOf(1, 2, point(0, -4)), zonogonOf(-3, 5, point(-3, 5)), zonogonOf(0, 0, point(2, 4), point(-1, -2), point(0, 0)), zonogonOf(7, 0, point(-2, 0), point(1, 0)),
		zonogonOf(0, 1, point(0, 2), point(0, -1)), zonogonOf(5, 5, point(1, 1), point(2, 2), point(-3, -3)), zonogonOf(1, -1, point(2, -3)),
		zonogonOf(4, 2, point(4, 0), point(0, 2)), zonogonOf(1, 7, point(4, 0), point(0, 2), point(-3, 5)), zonogonOf(0, 0, point(-2, 0), point(1, 0), point(0, -3)),
		zonogonOf(0, 0, point(9, 0), point(1, 1), point(0, 9), point(-1, 2)), zonogonOf(-2, 3, point(1, 2), point(2, 1)), zonogonOf(-2, 3, point(1, 2), point(-1, 2)),
		zonogonOf(0, 0, point(3, 1), point(-3, 1)), zonogonOf(1, 0, point(1, 0), point(1, 1), point(0, 1), point(-1, 1)), zonogonOf(0, 9, point(2, 3), point(-4, -6), point(1, -1), point(-2, 2), point(0, 5)),
		zonogonOf(6, 6, point(5, 1), point(1, 5), point(-5, 1), point(0, 0), point(-1, 5), point(5, -1)), zonogonOf(0, 0, fan(5)...), zonogonOf(11, -8, point(0, -1), point(-1, 0)),
	}
}

// greatZonogons are valid zonogons at the limits.
func greatZonogons() []api.Zonogon {
	var l []api.Zonogon
	for _, x := range []int{-mostMiddle, mostMiddle} {
		for _, y := range []int{-mostMiddle, mostMiddle} {
			l = append(l, zonogonOf(x, y), zonogonOf(x, y, repeated(16, point(mostGen, mostGen))...), zonogonOf(y, x, repeated(16, point(-mostGen, mostGen))...))
			l = append(l, zonogonOf(x, 0, fan(16)...), zonogonOf(x, y, append(repeated(8, point(mostGen, 0)), repeated(8, point(0, -mostGen))...)...))
		}
	}
	mixed := append(append(repeated(5, point(mostGen, mostGen)), repeated(5, point(mostGen, -mostGen))...), repeated(5, point(-mostGen, 1-mostGen))...)
	return append(l, zonogonOf(1, 0, mixed...), zonogonOf(0, -1, point(mostGen, 1), point(mostGen, 2), point(-mostGen, 0), point(1, mostGen), point(-1, -mostGen)))
}

// badZonogons are zonogons that are not valid: of each kind, all other conditions hold.
func badZonogons() []api.Zonogon {
	l := []api.Zonogon{zonogonOf(0, 0, make([]api.Point, 17)...), zonogonOf(0, 0, fan(17)...), zonogonOf(1, 2, repeated(17, point(1, 0))...), zonogonOf(1, 2, repeated(300, point(3, 4))...)}
	for _, n := range beyond(mostMiddle) {
		l = append(l, zonogonOf(n, 0, point(1, 2)), zonogonOf(0, n, point(1, 2)), zonogonOf(n, n))
	}
	for _, n := range beyond(mostGen) {
		l = append(l, zonogonOf(0, 0, point(n, 0)), zonogonOf(0, 0, point(0, n)), zonogonOf(0, 0, point(1, 0), point(n, n)), zonogonOf(0, 0, append(fan(15), point(0, n))...))
	}
	return l
}

// ends are the doubled coordinates of all points of z with -1/2 or 1/2 for every generator.
func ends(z api.Zonogon) []api.Point {
	l := []api.Point{point(z.X2, z.Y2)}
	for _, g := range z.Gens {
		var next []api.Point
		for _, p := range l {
			next = append(next, point(p.X-g.X, p.Y-g.Y), point(p.X+g.X, p.Y+g.Y))
		}
		sortPoints(next)
		l = slices.Compact(next)
	}
	return l
}

// sortPoints sorts by (Y, X).
func sortPoints(l []api.Point) {
	slices.SortFunc(l, func(p, q api.Point) int { return cmp.Or(cmp.Compare(p.Y, q.Y), cmp.Compare(p.X, q.X)) })
}

// side is above 0 if r lies to the left of the line from p to q, 0 if it lies on the line.
func side(p, q, r api.Point) int {
	return (q.X-p.X)*(r.Y-p.Y) - (q.Y-p.Y)*(r.X-p.X)
}

// chain leaves those points of l, which is sorted, at which a chain with l on its left turns, and both ends.
func chain(l []api.Point) []api.Point {
	var c []api.Point
	for _, p := range l {
		for len(c) > 1 && side(c[len(c)-2], c[len(c)-1], p) <= 0 {
			c = c[:len(c)-1]
		}
		c = append(c, p)
	}
	return c
}

// hull is the corners of the convex hull of the points, counterclockwise from the least one by (Y, X) on.
func hull(points []api.Point) []api.Point {
	l := slices.Clone(points)
	sortPoints(l)
	l = slices.Compact(l)
	if len(l) < 3 {
		return l
	}
	right := chain(l)
	slices.Reverse(l)
	left := chain(l)
	return append(right, left[1:len(left)-1]...)
}

// polygon is the corners of z by its definition: those of the hull of its ends.
func polygon(z api.Zonogon) []api.Point {
	return hull(ends(z))
}

// holds tells whether the polygon of these corners has the point p.
func holds(corners []api.Point, p api.Point) bool {
	first := corners[0]
	switch len(corners) {
	case 1:
		return p == first
	case 2:
		last := corners[1]
		return side(first, last, p) == 0 && (p.X-first.X)*(p.X-last.X)+(p.Y-first.Y)*(p.Y-last.Y) <= 0
	}
	for i, q := range corners {
		if side(q, corners[(i+1)%len(corners)], p) < 0 {
			return false
		}
	}
	return true
}

// value is n.X*x2 + n.Y*y2 of the point.
func value(n, p api.Point) int {
	return n.X*p.X + n.Y*p.Y
}

// greatest is the greatest value of the points.
func greatest(n api.Point, points []api.Point) int {
	most := value(n, points[0])
	for _, p := range points {
		most = max(most, value(n, p))
	}
	return most
}

// lowest is g in lowest terms, with an angle below 180 degrees.
func lowest(g api.Point) api.Point {
	x, y := big.NewInt(int64(g.X)), big.NewInt(int64(g.Y))
	f := int(new(big.Int).GCD(nil, nil, x.Abs(x), y.Abs(y)).Int64())
	if g.Y < 0 || g.Y == 0 && g.X < 0 {
		f = -f
	}
	return point(g.X/f, g.Y/f)
}

// normal is the canonical form of z by its definition: for each direction in lowest terms, how often the generators have it.
func normal(z api.Zonogon) api.Zonogon {
	counts := map[api.Point]int{}
	for _, g := range z.Gens {
		if g != point(0, 0) {
			d := lowest(g)
			counts[d] += max(g.X, -g.X, g.Y, -g.Y) / max(d.X, -d.X, d.Y, -d.Y)
		}
	}
	var l []api.Point
	for d, n := range counts {
		l = append(l, point(n*d.X, n*d.Y))
	}
	slices.SortFunc(l, byAngle)
	return zonogonOf(z.X2, z.Y2, l...)
}

// byAngle compares angles below 180 degrees: with the angle, X/Y falls.
func byAngle(a, b api.Point) int {
	if a.Y == 0 || b.Y == 0 {
		return cmp.Compare(min(a.Y, 1), min(b.Y, 1))
	}
	return big.NewRat(int64(b.X), int64(b.Y)).Cmp(big.NewRat(int64(a.X), int64(a.Y)))
}

// wantError checks the results of a call that is to fail.
func wantError(t *testing.T, name string, got api.Zonogon, e, want api.Errno) {
	t.Helper()
	if e != want || !equal(got, api.Zonogon{}) {
		t.Errorf("%s is %v with the error %d, not %d", name, got, e, want)
	}
}

// wantZonogon checks the results of a call that is not to fail.
func wantZonogon(t *testing.T, name string, got api.Zonogon, e api.Errno, want api.Zonogon) {
	t.Helper()
	if e != api.OK || !equal(got, want) {
		t.Errorf("%s is %v with the error %d, not %v", name, got, e, want)
	}
}

// source makes numbers that are the same in every run.
type source uint64

// next is a number from lo to hi.
func (s *source) next(lo, hi int) int {
	*s = *s*6364136223846793005 + 1442695040888963407
	return lo + int(uint64(*s)>>33)%(hi-lo+1)
}

// point is a point with coordinates of this magnitude at most.
func (s *source) point(size int) api.Point {
	return point(s.next(-size, size), s.next(-size, size))
}

// gens is n generators, some of which are parallel to one before.
func (s *source) gens(n, size int) []api.Point {
	var l []api.Point
	for len(l) < n {
		if len(l) > 0 && s.next(0, 3) == 0 {
			g, f := l[s.next(0, len(l)-1)], s.next(-2, 2)
			if g = point(f*g.X, f*g.Y); max(g.X, -g.X, g.Y, -g.Y) <= size {
				l = append(l, g)
			}
		} else {
			l = append(l, s.point(size))
		}
	}
	return l
}

// zonogon is a zonogon with n generators and coordinates of this magnitude at most.
func (s *source) zonogon(n, size int) api.Zonogon {
	m := s.point(size)
	return zonogonOf(m.X, m.Y, s.gens(n, size)...)
}

// zonogons are valid zonogons of all sizes.
func zonogons() []api.Zonogon {
	s := source(7)
	l := append(smallZonogons(), greatZonogons()...)
	for i := range 300 {
		l = append(l, s.zonogon(i%7, 2), s.zonogon(i%7, 9), s.zonogon(i%5, 1000), s.zonogon(i%9, mostGen))
	}
	return append(l, s.zonogon(16, 3), s.zonogon(16, mostGen), s.zonogon(15, mostGen))
}
