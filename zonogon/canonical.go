package zonogon

import (
	"cmp"
	"slices"

	"wayfinder/api"
)

// cross returns the cross product of a and b: above 0 if b lies to the left of a.
func cross(a, b Point) int {
	return a.X*b.Y - a.Y*b.X
}

// canonical returns the canonical form of z. Its generators are new memory.
func canonical(z Zonogon) Zonogon {
	var l []Point
	for _, g := range z.Gens {
		if g != (Point{}) {
			l = append(l, upward(g))
		}
	}
	// All angles are below 180 degrees, so the cross product tells which one is less.
	slices.SortFunc(l, func(a, b Point) int { return cmp.Compare(0, cross(a, b)) })
	return Zonogon{X2: z.X2, Y2: z.Y2, Gens: joined(l)}
}

// upward returns g or -g, the one with an angle below 180 degrees.
func upward(g Point) Point {
	if g.Y < 0 || g.Y == 0 && g.X < 0 {
		return Point{X: -g.X, Y: -g.Y}
	}
	return g
}

// joined returns the generators of l, which is sorted by angle, with the sums of the parallel ones.
func joined(l []Point) []Point {
	var sums []Point
	for _, g := range l {
		last := len(sums) - 1
		if last >= 0 && cross(sums[last], g) == 0 {
			sums[last] = Point{X: sums[last].X + g.X, Y: sums[last].Y + g.Y}
		} else {
			sums = append(sums, g)
		}
	}
	return sums
}

// Reduce returns a canonical zonogon with at most most generators that contains z, the canonical form of z if this has no more; ErrArg if z is not valid, ErrRange if most is not from 2 to 16, ErrFull if the result would not be valid.
func Reduce(z Zonogon, most int) (Zonogon, Errno) {
	if !Valid(z) {
		return Zonogon{}, api.ErrArg
	}
	if most < 2 || most > maxGens {
		return Zonogon{}, api.ErrRange
	}
	c := canonical(z)
	if k := len(c.Gens); k > most {
		c.Gens = boxed(c.Gens, k+2-most)
		c = canonical(c)
	}
	return ifValid(c)
}

// boxed returns the generators of l with the n shortest ones replaced by the two sides of a rectangle that contains their sum; of equal ones the first are replaced.
func boxed(l []Point, n int) []Point {
	sorted := slices.Clone(l)
	slices.SortStableFunc(sorted, func(a, b Point) int { return cmp.Compare(length(a), length(b)) })
	var x, y int
	for _, g := range sorted[:n] {
		x += magnitude(g.X)
		y += magnitude(g.Y)
	}
	return append(sorted[n:], Point{X: x}, Point{Y: y})
}

// length returns |X| + |Y|, by which Reduce compares generators.
func length(g Point) int {
	return magnitude(g.X) + magnitude(g.Y)
}

// magnitude returns |n|.
func magnitude(n int) int {
	return max(n, -n)
}
