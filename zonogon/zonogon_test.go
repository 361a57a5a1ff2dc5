package zonogon_test

import (
	"math"
	"slices"
	"testing"

	"wayfinder/api"
	"wayfinder/zonogon"
)

// P7.1

func TestValid(t *testing.T) {
	for _, z := range zonogons() {
		if !zonogon.Valid(z) {
			t.Errorf("%v is valid", z)
		}
	}
	for _, z := range badZonogons() {
		if zonogon.Valid(z) {
			t.Errorf("%v is not valid", z)
		}
	}
	for n := range 20 {
		if z := zonogonOf(0, 0, fan(n)...); zonogon.Valid(z) != (n <= 16) {
			t.Errorf("Valid of %d generators is %t", n, n > 16)
		}
	}
	if !zonogon.Valid(api.Zonogon{}) || !zonogon.Valid(zonogonOf(0, 0, []api.Point{}...)) {
		t.Error("a point without generators is valid")
	}
}

func TestNorm(t *testing.T) {
	for _, c := range []struct{ z, want api.Zonogon }{
		{zonogonOf(0, 0, point(-2, 0), point(1, 0), point(0, -3)), zonogonOf(0, 0, point(3, 0), point(0, 3))},
		{api.Zonogon{}, api.Zonogon{}},
		{zonogonOf(-7, 8, point(0, 0), point(0, 0)), zonogonOf(-7, 8)},
		// A generator with Y = 0 points to the right, every other one upwards.
		{zonogonOf(0, 0, point(-5, 0)), zonogonOf(0, 0, point(5, 0))},
		{zonogonOf(0, 0, point(5, 0)), zonogonOf(0, 0, point(5, 0))},
		{zonogonOf(0, 0, point(0, -5)), zonogonOf(0, 0, point(0, 5))},
		{zonogonOf(0, 0, point(5, -1)), zonogonOf(0, 0, point(-5, 1))},
		{zonogonOf(0, 0, point(-5, -1)), zonogonOf(0, 0, point(5, 1))},
		{zonogonOf(0, 0, point(-5, 1)), zonogonOf(0, 0, point(-5, 1))},
		// Parallel ones add up, also if they point the other way or aren't neighbours.
		{zonogonOf(1, 1, point(1, 2), point(3, 1), point(-2, -4), point(0, 0), point(5, 10)), zonogonOf(1, 1, point(3, 1), point(8, 16))},
		{zonogonOf(1, 1, point(1, 2), point(-1, -2)), zonogonOf(1, 1, point(2, 4))},
		{zonogonOf(1, 1, point(1, 2), point(-1, 2)), zonogonOf(1, 1, point(1, 2), point(-1, 2))},
		// By the angle.
		{
			zonogonOf(0, 0, point(-9, 1), point(-1, 9), point(0, 7), point(1, 9), point(9, 1), point(3, 0), point(-1, 1), point(1, 1)),
			zonogonOf(0, 0, point(3, 0), point(9, 1), point(1, 1), point(1, 9), point(0, 7), point(-1, 9), point(-1, 1), point(-9, 1)),
		},
		// At the limits.
		{zonogonOf(mostMiddle, -mostMiddle, repeated(16, point(mostGen, -mostGen))...), zonogonOf(mostMiddle, -mostMiddle, point(-1<<20, 1<<20))},
		{zonogonOf(0, 0, repeated(16, point(-mostGen, 0))...), zonogonOf(0, 0, point(1<<20, 0))},
		{
			zonogonOf(0, 0, point(mostGen, mostGen-1), point(mostGen-1, mostGen-2), point(1-mostGen, -mostGen), point(mostGen-2, mostGen-1)),
			zonogonOf(0, 0, point(mostGen-1, mostGen-2), point(mostGen, mostGen-1), point(mostGen-1, mostGen), point(mostGen-2, mostGen-1)),
		},
	} {
		got, e := zonogon.Norm(c.z)
		wantZonogon(t, "a canonical form", got, e, c.want)
	}
}

func TestNormByTheDefinition(t *testing.T) {
	for _, z := range zonogons() {
		got, e := zonogon.Norm(z)
		if e != api.OK || !equal(got, normal(z)) {
			t.Fatalf("Norm(%v) is %v with the error %d", z, got, e)
		}
		if !slices.Equal(polygon(got), polygon(z)) {
			t.Fatalf("Norm(%v) is another set", z)
		}
	}
	for _, z := range badZonogons() {
		got, e := zonogon.Norm(z)
		wantError(t, "Norm of no zonogon", got, e, api.ErrArg)
	}
}

// P7.2

// variants are other zonogons with the set of z: another order, opposite generators, divided ones, ones of no length.
func variants(s *source, z api.Zonogon) []api.Zonogon {
	a, b, c := clone(z), clone(z), clone(z)
	slices.Reverse(a.Gens)
	b.Gens = append(b.Gens, point(0, 0))
	for i, g := range c.Gens {
		part := point(g.X/2, g.Y/2)
		if s.next(0, 1) == 0 {
			c.Gens[i] = point(-g.X, -g.Y)
		}
		if g == point(2*part.X, 2*part.Y) {
			c.Gens[i] = part
			c.Gens = append(c.Gens, point(-part.X, -part.Y))
		}
	}
	return []api.Zonogon{a, b, c}
}

func TestSameSetsHaveOneForm(t *testing.T) {
	s := source(1)
	for _, z := range append(smallZonogons(), s.zonogon(6, mostGen), s.zonogon(5, 30)) {
		want, _ := zonogon.Norm(z)
		for _, v := range variants(&s, z) {
			if got, e := zonogon.Norm(v); e != api.OK || !equal(got, want) || !zonogon.Same(z, v) || !zonogon.Same(v, z) {
				t.Errorf("%v and %v are the same set, with the forms %v and %v", z, v, want, got)
			}
		}
	}
}

func TestSame(t *testing.T) {
	s := source(2)
	l := smallZonogons()
	for i := range 150 {
		l = append(l, s.zonogon(i%5, 1), zonogonOf(0, 0, s.gens(i%4, 2)...))
	}
	for _, a := range l {
		first, _ := zonogon.Norm(a)
		corners := polygon(a)
		for _, b := range l {
			second, _ := zonogon.Norm(b)
			want := slices.Equal(corners, polygon(b))
			if zonogon.Same(a, b) != want || equal(first, second) != want {
				t.Fatalf("Same(%v, %v) is not %t", a, b, want)
			}
		}
	}
}

func TestSameOfOthers(t *testing.T) {
	for _, z := range []api.Zonogon{{}, zonogonOf(1, 2, point(3, 4), point(5, 6))} {
		for _, bad := range badZonogons() {
			if zonogon.Same(z, bad) || zonogon.Same(bad, z) || zonogon.Same(bad, bad) {
				t.Errorf("%v is the same as %v", z, bad)
			}
		}
	}
	z := zonogonOf(1, 2, point(3, 4), point(5, 6))
	for _, other := range []api.Zonogon{
		zonogonOf(2, 2, point(3, 4), point(5, 6)), zonogonOf(1, 3, point(3, 4), point(5, 6)), zonogonOf(1, 2, point(3, 4)), zonogonOf(1, 2, point(5, 6)),
		zonogonOf(1, 2, point(3, 4), point(5, 7)), zonogonOf(1, 2, point(3, 4), point(-5, 6)), zonogonOf(1, 2, point(3, 4), point(5, 6), point(1, 0)), zonogonOf(2, 1, point(4, 3), point(6, 5)),
	} {
		if zonogon.Same(z, other) || zonogon.Same(other, z) {
			t.Errorf("%v is the same as %v", z, other)
		}
	}
	// The canonical form of a valid zonogon, though it need not be valid.
	long := zonogonOf(0, 0, repeated(16, point(mostGen, mostGen))...)
	if !zonogon.Same(long, zonogonOf(0, 0, repeated(16, point(-mostGen, -mostGen))...)) || zonogon.Same(long, zonogonOf(0, 0, repeated(15, point(mostGen, mostGen))...)) {
		t.Error("Same of long segments")
	}
}

// P7.1: rectangles and segments

func TestOfRect(t *testing.T) {
	for _, c := range []struct {
		r    api.Rect
		want api.Zonogon
	}{
		{rect(0, 0, 4, 2), zonogonOf(4, 2, point(4, 0), point(0, 2))},
		{rect(-5, 7, -5, 7), zonogonOf(-10, 14)},
		{rect(-5, 7, -2, 7), zonogonOf(-7, 14, point(3, 0))},
		{rect(-5, 7, -5, 8), zonogonOf(-10, 15, point(0, 1))},
		{rect(0, 0, 0, 0), api.Zonogon{}},
		{rect(-mostLine, mostLine-mostGen, mostGen-mostLine, mostLine), zonogonOf(mostGen-2*mostLine, 2*mostLine-mostGen, point(mostGen, 0), point(0, mostGen))},
		{rect(mostLine, -mostLine, mostLine, -mostLine), zonogonOf(2*mostLine, -2*mostLine)},
	} {
		got, e := zonogon.OfRect(c.r)
		wantZonogon(t, "a rectangle", got, e, c.want)
	}
	for y0 := -3; y0 <= 3; y0++ {
		for y1 := y0; y1 <= 3; y1++ {
			for x0 := -3; x0 <= 3; x0++ {
				for x1 := x0; x1 <= 3; x1++ {
					r := rect(x0, y0, x1, y1)
					got, e := zonogon.OfRect(r)
					corners := hull([]api.Point{point(2*x0, 2*y0), point(2*x1, 2*y0), point(2*x0, 2*y1), point(2*x1, 2*y1)})
					if e != api.OK || !slices.Equal(polygon(got), corners) || !equal(got, normal(got)) {
						t.Fatalf("OfRect(%v) is %v with the error %d", r, got, e)
					}
				}
			}
		}
	}
}

func TestOfRectErrors(t *testing.T) {
	l := []api.Rect{
		rect(1, 0, 0, 0), rect(0, 1, 0, 0), rect(5, 5, 4, 9), rect(5, 5, 9, 4), rect(1, 1, 0, 0),
		rect(0, 0, mostGen+1, 0), rect(0, 0, 0, mostGen+1), rect(-mostGen, 5, 1, 6), rect(5, -1, 6, mostGen), rect(-mostLine, 0, mostLine, 0), rect(0, -mostLine, 0, mostLine),
		rect(mostLine, mostLine, -mostLine, -mostLine),
	}
	for _, n := range beyond(mostLine) {
		l = append(l, rect(n, 0, n, 0), rect(0, n, 0, n), rect(n, n, n, n), rect(min(n, 0), 0, max(n, 0), 0), rect(0, min(n, 0), 0, max(n, 0)), rect(max(n, 0), 0, min(n, 0), 0))
	}
	// The sides are within their limit: only the coordinates are not.
	l = append(l, rect(mostLine, 0, mostLine+1, 0), rect(0, mostLine, 0, mostLine+1), rect(-mostLine-1, 0, -mostLine, 0), rect(0, -mostLine-1, 0, -mostLine))
	l = append(l, rect(math.MinInt, 0, math.MaxInt, 0), rect(0, math.MinInt, 0, math.MaxInt), rect(math.MaxInt, 0, math.MinInt, 0))
	for _, r := range l {
		got, e := zonogon.OfRect(r)
		wantError(t, "OfRect of no rectangle", got, e, api.ErrArg)
	}
}

func TestOfSegment(t *testing.T) {
	for _, c := range []struct {
		p, q api.Point
		want api.Zonogon
	}{
		{point(0, 0), point(-3, 5), zonogonOf(-3, 5, point(-3, 5))},
		{point(0, 0), point(3, -5), zonogonOf(3, -5, point(-3, 5))},
		{point(4, 7), point(4, 7), zonogonOf(8, 14)},
		{point(4, 7), point(1, 7), zonogonOf(5, 14, point(3, 0))},
		{point(4, 7), point(4, 1), zonogonOf(8, 8, point(0, 6))},
		{point(mostLine, -mostLine), point(mostLine-mostGen, mostGen-mostLine), zonogonOf(2*mostLine-mostGen, mostGen-2*mostLine, point(-mostGen, mostGen))},
		{point(-mostLine, mostLine), point(mostGen-mostLine, mostLine), zonogonOf(mostGen-2*mostLine, 2*mostLine, point(mostGen, 0))},
	} {
		got, e := zonogon.OfSegment(c.p, c.q)
		wantZonogon(t, "a segment", got, e, c.want)
		got, e = zonogon.OfSegment(c.q, c.p)
		wantZonogon(t, "a segment, from the other end", got, e, c.want)
	}
	s := source(3)
	for _, size := range []int{1, 3, 1000, mostGen / 2} {
		for range 500 {
			p, q := s.point(size), s.point(size)
			got, e := zonogon.OfSegment(p, q)
			corners := hull([]api.Point{point(2*p.X, 2*p.Y), point(2*q.X, 2*q.Y)})
			if e != api.OK || !slices.Equal(polygon(got), corners) || !equal(got, normal(got)) {
				t.Fatalf("OfSegment(%v, %v) is %v with the error %d", p, q, got, e)
			}
		}
	}
}

func TestOfSegmentErrors(t *testing.T) {
	wrong := func(p, q api.Point) {
		t.Helper()
		got, e := zonogon.OfSegment(p, q)
		wantError(t, "OfSegment of no segment", got, e, api.ErrArg)
		got, e = zonogon.OfSegment(q, p)
		wantError(t, "OfSegment of no segment, from the other end", got, e, api.ErrArg)
	}
	wrong(point(0, 0), point(mostGen+1, 0))
	wrong(point(0, 0), point(0, mostGen+1))
	wrong(point(5, 0), point(-mostGen+4, 9))
	wrong(point(mostLine, 0), point(-mostLine, 0))
	wrong(point(0, mostLine), point(0, -mostLine))
	for _, n := range beyond(mostLine) {
		wrong(point(n, 0), point(n, 0))
		wrong(point(0, n), point(0, n))
		wrong(point(n, 0), point(0, 0))
		wrong(point(0, n), point(0, 0))
		wrong(point(n, n), point(n, n))
	}
	wrong(point(mostLine, 0), point(mostLine+1, 0))
	wrong(point(0, -mostLine), point(0, -mostLine-1))
	wrong(point(math.MinInt, 0), point(math.MaxInt, 0))
	wrong(point(0, math.MinInt), point(0, math.MaxInt))
}

// No function changes its arguments, and no result shares memory with them.
func TestMemory(t *testing.T) {
	for _, z := range []api.Zonogon{zonogonOf(1, 7, point(4, 0), point(0, 2), point(-3, 5)), zonogonOf(1, 7, point(-3, 5), point(0, -2), point(-4, 0), point(0, 0), point(8, 0))} {
		// The generators are followed by memory that an append could overwrite.
		room := append(slices.Clone(z.Gens), point(11, 12), point(13, 14), point(15, 16), point(17, 18))
		whole := slices.Clone(room)
		a := api.Zonogon{X2: z.X2, Y2: z.Y2, Gens: room[:len(z.Gens)]}
		norm, _ := zonogon.Norm(a)
		sum, _ := zonogon.Sum(a, a)
		point1, _ := zonogon.Sum(a, api.Zonogon{})
		point2, _ := zonogon.Sum(api.Zonogon{}, a)
		same, _ := zonogon.Reduce(a, 16)
		few, _ := zonogon.Reduce(a, 2)
		zonogon.Has(a, 1, 2)
		zonogon.Support(a, point(1, 2))
		zonogon.Bounds(a)
		zonogon.Area(a)
		zonogon.Same(a, a)
		zonogon.Apart(a, rect(1, 2, 3, 4))
		corners := zonogon.Corners(a)
		if !slices.Equal(room, whole) {
			t.Fatalf("%v is changed to %v", whole, room)
		}
		for _, r := range []api.Zonogon{norm, sum, point1, point2, same, few} {
			clear(r.Gens[:cap(r.Gens)])
		}
		clear(corners[:cap(corners)])
		if !slices.Equal(room, whole) {
			t.Errorf("a result shares memory with %v", whole)
		}
		again, _ := zonogon.Norm(a)
		if !equal(again, normal(z)) || !slices.Equal(zonogon.Corners(a), polygon(z)) {
			t.Error("a result shares memory with an earlier one")
		}
	}
}
