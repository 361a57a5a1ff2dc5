package zonogon

import (
	"slices"

	"wayfinder/api"
)

// The greatest magnitudes of the doubled coordinates of a point in Has, and of the coordinates of a normal in Support.
const (
	maxDoubled = 1 << 24
	maxNormal  = 1 << 16
)

// dot returns the scalar product of a and b.
func dot(a, b Point) int {
	return a.X*b.X + a.Y*b.Y
}

// middle returns the center of z, in doubled coordinates.
func middle(z Zonogon) Point {
	return Point{X: z.X2, Y: z.Y2}
}

// spread returns the greatest scalar product of n and a sum of t*g with -1 <= t <= 1 for each generator g of l. These sums are the zonogon in doubled coordinates, seen from its center.
func spread(l []Point, n Point) int {
	sum := 0
	for _, g := range l {
		sum += magnitude(dot(n, g))
	}
	return sum
}

// reaches reports whether p is a sum of t*g with -1 <= t <= 1 for each generator g of l.
func reaches(l []Point, p Point) bool {
	// The edges are parallel to the generators. If there is only one direction or none, the axes limit the set where no edge does.
	if magnitude(p.X) > spread(l, Point{X: 1}) || magnitude(p.Y) > spread(l, Point{Y: 1}) {
		return false
	}
	return !slices.ContainsFunc(l, func(g Point) bool {
		normal := Point{X: -g.Y, Y: g.X}
		return magnitude(dot(normal, p)) > spread(l, normal)
	})
}

// Has reports whether z is valid, x2 and y2 are within their limit, and the point with these doubled coordinates is in z.
func Has(z Zonogon, x2, y2 int) bool {
	if !Valid(z) || !within(x2, maxDoubled) || !within(y2, maxDoubled) {
		return false
	}
	return reaches(z.Gens, Point{X: x2 - z.X2, Y: y2 - z.Y2})
}

// Support returns the greatest scalar product of n and the doubled coordinates of a point of z; 0 if z is not valid or n is beyond its limit.
func Support(z Zonogon, n Point) int {
	if !Valid(z) || !pointWithin(n, maxNormal) {
		return 0
	}
	return dot(n, middle(z)) + spread(z.Gens, n)
}

// Bounds returns the least rectangle that contains z, in doubled coordinates; ErrArg if z is not valid.
func Bounds(z Zonogon) (Rect, Errno) {
	if !Valid(z) {
		return Rect{}, api.ErrArg
	}
	x, y := spread(z.Gens, Point{X: 1}), spread(z.Gens, Point{Y: 1})
	return Rect{X0: z.X2 - x, Y0: z.Y2 - y, X1: z.X2 + x, Y1: z.Y2 + y}, api.OK
}

// Area returns the area of z, in units; 0 if z is not valid.
func Area(z Zonogon) int {
	if !Valid(z) {
		return 0
	}
	sum := 0
	for i, g := range z.Gens {
		for _, h := range z.Gens[:i] {
			sum += magnitude(cross(g, h))
		}
	}
	return sum
}

// Corners returns the corners of z in doubled coordinates, counterclockwise from the one with the least Y on, of several the one with the least X; none if z is not valid.
func Corners(z Zonogon) []Point {
	if !Valid(z) {
		return nil
	}
	gens := canonical(z).Gens
	at := middle(z)
	for _, g := range gens {
		at = Point{X: at.X - g.X, Y: at.Y - g.Y}
	}
	l := []Point{at}
	for _, sign := range [2]int{1, -1} {
		for _, g := range gens {
			at = Point{X: at.X + 2*sign*g.X, Y: at.Y + 2*sign*g.Y}
			l = append(l, at)
		}
	}
	// The last edge leads back to the first corner.
	return l[:max(1, len(l)-1)]
}

// Apart reports whether z and the rectangle r, in units, are valid and have no point in common.
func Apart(z Zonogon, r Rect) bool {
	if !Valid(z) || !validRect(r) {
		return false
	}
	// They have one exactly if the difference of their centers is in the sum of both, moved to the center (0, 0).
	gens := append(slices.Clone(z.Gens), Point{X: r.X1 - r.X0}, Point{Y: r.Y1 - r.Y0})
	return !reaches(gens, Point{X: r.X0 + r.X1 - z.X2, Y: r.Y0 + r.Y1 - z.Y2})
}
