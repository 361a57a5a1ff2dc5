package segment_test

import (
	"math"
	"math/big"

	"wayfinder/api"
)

// most is the greatest magnitude of a coordinate.
const most = 1 << 21

func point(x, y int) api.Point {
	return api.Point{X: x, Y: y}
}

func rect(x0, y0, x1, y1 int) api.Rect {
	return api.Rect{X0: x0, Y0: y0, X1: x1, Y1: y1}
}

func vector(x, y, d int) api.Vector {
	return api.Vector{X: x, Y: y, D: d}
}

func fraction(n, d int) api.Fraction {
	return api.Fraction{N: n, D: d}
}

// steep is the direction whose half angle has the tangent n/m, in no special terms.
func steep(m, n int) api.Vector {
	return vector(m*m-n*n, 2*m*n, m*m+n*n)
}

// around is v in all four quadrants, and mirrored in the diagonals.
func around(v api.Vector) []api.Vector {
	var l []api.Vector
	for _, x := range []int{v.X, -v.X} {
		for _, y := range []int{v.Y, -v.Y} {
			l = append(l, vector(x, y, v.D), vector(y, x, v.D))
		}
	}
	return l
}

// few are vectors along the axes and between them, in lowest terms and not.
func few() []api.Vector {
	l := []api.Vector{vector(1, 0, 1), vector(0, 7, 7), vector(-2, 0, 2), vector(0, -1, 1)}
	return append(l, around(vector(3, 4, 5))...)
}

// long are vectors with a great length, close to the axes and to the diagonals too.
func long() []api.Vector {
	l := []api.Vector{vector(1<<26, 0, 1<<26), vector(0, -1<<26, 1<<26)}
	for _, v := range []api.Vector{vector(54758411, 38795820, 67108861), steep(8191, 1), steep(4097, 4096), steep(8000, 1731)} {
		l = append(l, around(v)...)
	}
	return l
}

// badCoords are integers that are no coordinates.
var badCoords = []int{most + 1, -most - 1, 1 << 32, 1 << 62, math.MinInt, math.MinInt + 1, math.MaxInt}

// badPoints are points that are not valid.
func badPoints() []api.Point {
	var l []api.Point
	for _, n := range badCoords {
		l = append(l, point(n, 0), point(0, n), point(n, n))
	}
	return l
}

// badRects are rectangles that are not valid.
func badRects() []api.Rect {
	l := []api.Rect{rect(1, 0, 0, 0), rect(0, 1, 0, 0), rect(5, 5, 4, 9), rect(5, 5, 9, 4), rect(most, 0, -most, 0), rect(0, most, 0, -most)}
	for _, n := range badCoords {
		l = append(l, rect(n, 0, 0, 0), rect(0, n, 0, 0), rect(0, 0, n, 0), rect(0, 0, 0, n), rect(n, n, n, n))
	}
	return l
}

// badVectors are vectors that are not valid.
func badVectors() []api.Vector {
	l := []api.Vector{
		{}, vector(1, 0, 0), vector(1, 0, -1), vector(-1, 0, -1), vector(3, 4, -5), vector(3, 4, 6), vector(1, 1, 1), vector(2, 0, 1), vector(0, 0, 1),
		vector(1<<26+1, 0, 1<<26+1), vector(0, 1<<27, 1<<27), vector(1<<32, 5, 5), vector(1<<32, 1<<32, 1<<26),
	}
	for _, n := range []int{math.MinInt, math.MaxInt} {
		l = append(l, vector(n, 0, n), vector(0, n, 1), vector(1, 0, n), vector(n, n, n))
	}
	return l
}

func rat(n, d int) *big.Rat {
	return big.NewRat(int64(n), int64(d))
}

// on is the point at the distance s of the ray.
func on(p api.Point, v api.Vector, s *big.Rat) (*big.Rat, *big.Rat) {
	x, y := new(big.Rat).Mul(s, rat(v.X, v.D)), new(big.Rat).Mul(s, rat(v.Y, v.D))
	return x.Add(x, rat(p.X, 1)), y.Add(y, rat(p.Y, 1))
}

// contains tells whether (x, y) is in r.
func contains(r api.Rect, x, y *big.Rat) bool {
	return x.Cmp(rat(r.X0, 1)) >= 0 && x.Cmp(rat(r.X1, 1)) <= 0 && y.Cmp(rat(r.Y0, 1)) >= 0 && y.Cmp(rat(r.Y1, 1)) <= 0
}

// crossings are the numbers t for which one coordinate of p + t*(x, y) is one of r.
func crossings(p api.Point, x, y *big.Rat, r api.Rect) []*big.Rat {
	var l []*big.Rat
	add := func(n int, step *big.Rat) {
		if step.Sign() != 0 {
			l = append(l, new(big.Rat).Quo(rat(n, 1), step))
		}
	}
	add(r.X0-p.X, x)
	add(r.X1-p.X, x)
	add(r.Y0-p.Y, y)
	add(r.Y1-p.Y, y)
	return l
}

// visited finds the least and the greatest distance at which the ray is in r; nil if there are none. Either is 0 or a crossing.
func visited(p api.Point, v api.Vector, r api.Rect) (*big.Rat, *big.Rat) {
	var least, greatest *big.Rat
	for _, s := range append(crossings(p, rat(v.X, v.D), rat(v.Y, v.D), r), new(big.Rat)) {
		if x, y := on(p, v, s); s.Sign() < 0 || !contains(r, x, y) {
			continue
		}
		if least == nil || s.Cmp(least) < 0 {
			least = s
		}
		if greatest == nil || s.Cmp(greatest) > 0 {
			greatest = s
		}
	}
	return least, greatest
}

// outside is the difference of n and the nearest number from lo to hi.
func outside(n *big.Rat, lo, hi int) *big.Rat {
	if d := new(big.Rat).Sub(n, rat(lo, 1)); d.Sign() < 0 {
		return d
	}
	if d := new(big.Rat).Sub(n, rat(hi, 1)); d.Sign() > 0 {
		return d
	}
	return new(big.Rat)
}

// away is the squared distance of p + t*(q - p) from r, and half its derivative by t.
func away(p, q api.Point, r api.Rect, t *big.Rat) (*big.Rat, *big.Rat) {
	dx, dy := rat(q.X-p.X, 1), rat(q.Y-p.Y, 1)
	x := new(big.Rat).Mul(t, dx)
	x = outside(x.Add(x, rat(p.X, 1)), r.X0, r.X1)
	y := new(big.Rat).Mul(t, dy)
	y = outside(y.Add(y, rat(p.Y, 1)), r.Y0, r.Y1)
	square := new(big.Rat).Mul(x, x)
	square.Add(square, new(big.Rat).Mul(y, y))
	rise := x.Mul(x, dx)
	return square, rise.Add(rise, y.Mul(y, dy))
}

// nearest finds the least squared distance of the segment pq from r. The distance is convex along the segment, and between two crossings its derivative is a linear function.
func nearest(p, q api.Point, r api.Rect) *big.Rat {
	least, _ := away(p, q, r, rat(0, 1))
	try := func(t *big.Rat) {
		if d, _ := away(p, q, r, t); d.Cmp(least) < 0 {
			least = d
		}
	}
	try(rat(1, 1))
	knots := []*big.Rat{rat(0, 1), rat(1, 1)}
	for _, t := range crossings(p, rat(q.X-p.X, 1), rat(q.Y-p.Y, 1), r) {
		if t.Sign() > 0 && t.Cmp(rat(1, 1)) < 0 {
			knots = append(knots, t)
			try(t)
		}
	}
	for _, s := range knots {
		for _, t := range knots {
			_, a := away(p, q, r, s)
			_, b := away(p, q, r, t)
			if a.Sign() >= 0 || b.Sign() <= 0 {
				continue
			}
			// s + (t - s)*a/(a - b) is where the derivative is 0, if no knot is between s and t.
			f := new(big.Rat).Quo(a, new(big.Rat).Sub(a, b))
			f.Mul(f, new(big.Rat).Sub(t, s))
			try(f.Add(f, s))
		}
	}
	return least
}

// common tells whether the segments pq and ab have a point in common: it looks for the points of both lines, or for an end that is on the other segment.
func common(p, q, a, b api.Point) bool {
	if covers(p, q, a) || covers(p, q, b) || covers(a, b, p) || covers(a, b, q) {
		return true
	}
	across := (q.X-p.X)*(b.Y-a.Y) - (q.Y-p.Y)*(b.X-a.X)
	if across == 0 {
		return false
	}
	one := rat(1, 1)
	t := rat((a.X-p.X)*(b.Y-a.Y)-(a.Y-p.Y)*(b.X-a.X), across)
	u := rat((a.X-p.X)*(q.Y-p.Y)-(a.Y-p.Y)*(q.X-p.X), across)
	return t.Sign() >= 0 && t.Cmp(one) <= 0 && u.Sign() >= 0 && u.Cmp(one) <= 0
}

// covers tells whether c is on the segment pq: on its line, and not beyond an end.
func covers(p, q, c api.Point) bool {
	if (q.X-p.X)*(c.Y-p.Y) != (q.Y-p.Y)*(c.X-p.X) {
		return false
	}
	return (c.X-p.X)*(c.X-q.X)+(c.Y-p.Y)*(c.Y-q.Y) <= 0
}

// source makes numbers that are the same in every run.
type source uint64

// next is a number from lo to hi.
func (s *source) next(lo, hi int) int {
	*s = *s*6364136223846793005 + 1442695040888963407
	return lo + int(uint64(*s)>>33)%(hi-lo+1)
}

// point is a point with coordinates of this magnitude at most.
func (s *source) point(size int) api.Point {
	return point(s.next(-size, size), s.next(-size, size))
}

// rect is a rectangle with coordinates of this magnitude at most.
func (s *source) rect(size int) api.Rect {
	a, b := s.point(size), s.point(size)
	return rect(min(a.X, b.X), min(a.Y, b.Y), max(a.X, b.X), max(a.Y, b.Y))
}

// vector is one of the vectors.
func (s *source) vector(l []api.Vector) api.Vector {
	return l[s.next(0, len(l)-1)]
}

// moved and swapped are the changes of P5.3.
func moved(p api.Point, x, y int) api.Point {
	return point(p.X+x, p.Y+y)
}

func movedRect(r api.Rect, x, y int) api.Rect {
	return rect(r.X0+x, r.Y0+y, r.X1+x, r.Y1+y)
}

func swapped(p api.Point) api.Point {
	return point(p.Y, p.X)
}

func swappedRect(r api.Rect) api.Rect {
	return rect(r.Y0, r.X0, r.Y1, r.X1)
}

func swappedVector(v api.Vector) api.Vector {
	return vector(v.Y, v.X, v.D)
}
