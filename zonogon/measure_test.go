package zonogon_test

import (
	"math"
	"math/big"
	"slices"
	"testing"

	"wayfinder/api"
	"wayfinder/zonogon"
)

// P7.1 and P7.4

func TestMeasureExamples(t *testing.T) {
	z := zonogonOf(1, 7, point(4, 0), point(0, 2), point(-3, 5))
	if got := zonogon.Support(z, point(1, 0)); got != 8 {
		t.Errorf("the support is %d", got)
	}
	if got, e := zonogon.Bounds(z); e != api.OK || got != rect(-6, 0, 8, 14) {
		t.Errorf("the bounds are %v with the error %d", got, e)
	}
	if got := zonogon.Area(z); got != 34 {
		t.Errorf("the area is %d", got)
	}
	if got := zonogon.Corners(z); !slices.Equal(got, []api.Point{point(0, 0), point(8, 0), point(8, 4), point(2, 14), point(-6, 14), point(-6, 10)}) {
		t.Errorf("the corners are %v", got)
	}
	z = zonogonOf(4, 2, point(4, 0), point(0, 2))
	if got := zonogon.Corners(z); !slices.Equal(got, []api.Point{point(0, 0), point(8, 0), point(8, 4), point(0, 4)}) || zonogon.Area(z) != 8 {
		t.Errorf("the corners of the rectangle are %v, its area is %d", got, zonogon.Area(z))
	}
	z = zonogonOf(0, 0, point(-2, 0), point(1, 0), point(0, -3))
	if !zonogon.Has(z, 3, -3) || zonogon.Has(z, 4, 0) || !zonogon.Apart(z, rect(2, 0, 9, 9)) || zonogon.Apart(z, rect(1, 0, 9, 9)) {
		t.Error("the points of the third example")
	}
}

func TestHas(t *testing.T) {
	s := source(5)
	l := smallZonogons()
	for i := range 200 {
		l = append(l, s.zonogon(i%6, 2), s.zonogon(i%4, 4))
	}
	for _, z := range l {
		corners := polygon(z)
		b, _ := zonogon.Bounds(z)
		for y := b.Y0 - 2; y <= b.Y1+2; y++ {
			for x := b.X0 - 2; x <= b.X1+2; x++ {
				if want := holds(corners, point(x, y)); zonogon.Has(z, x, y) != want {
					t.Fatalf("Has(%v, %d, %d) is %t", z, x, y, !want)
				}
			}
		}
	}
}

// Every zonogon has its corners and its center, and no neighbour of a corner that lies outside.
func TestHasAtTheCorners(t *testing.T) {
	for _, z := range zonogons() {
		corners := polygon(z)
		for _, c := range append(zonogon.Corners(z), point(z.X2, z.Y2)) {
			if !zonogon.Has(z, c.X, c.Y) {
				t.Fatalf("%v doesn't have %v", z, c)
			}
			for dy := -1; dy <= 1; dy++ {
				for dx := -1; dx <= 1; dx++ {
					if want := holds(corners, point(c.X+dx, c.Y+dy)); zonogon.Has(z, c.X+dx, c.Y+dy) != want {
						t.Fatalf("Has(%v, %d, %d) is %t", z, c.X+dx, c.Y+dy, !want)
					}
				}
			}
		}
	}
}

func TestHasOfOthers(t *testing.T) {
	for _, z := range []api.Zonogon{{}, zonogonOf(0, 0, point(1, 0)), zonogonOf(0, 0, point(0, 1)), zonogonOf(mostMiddle, mostMiddle, repeated(16, point(mostGen, mostGen))...), zonogonOf(-1, -1, fan(16)...)} {
		for _, n := range append([]int{1 << 24, -1 << 24, 1<<24 + 1, -1<<24 - 1}, extremes...) {
			// A difference or a product that wraps around would be small.
			if zonogon.Has(z, n, 0) || zonogon.Has(z, 0, n) || zonogon.Has(z, n, n) || zonogon.Has(z, z.X2, n) || zonogon.Has(z, n, z.Y2) {
				t.Errorf("%v has a point with the coordinate %d", z, n)
			}
		}
		if z.X2 > 0 && (zonogon.Has(z, math.MinInt+z.X2, z.Y2) || zonogon.Has(z, z.X2, math.MinInt+z.Y2)) {
			t.Errorf("%v has a point whose difference is the least int", z)
		}
	}
	for _, z := range badZonogons() {
		for _, p := range append([]api.Point{{}, point(1, 2)}, point(z.X2, z.Y2)) {
			if zonogon.Has(z, p.X, p.Y) {
				t.Errorf("%v has %v", z, p)
			}
		}
	}
}

func TestSupport(t *testing.T) {
	s := source(6)
	for _, z := range zonogons() {
		all, corners := ends(z), zonogon.Corners(z)
		for _, n := range []api.Point{
			{}, point(1, 0), point(0, 1), point(-1, 0), point(0, -1), point(mostGen, mostGen), point(-mostGen, mostGen), point(mostGen, -mostGen), point(-mostGen, -mostGen), s.point(2), s.point(9), s.point(mostGen),
		} {
			got := zonogon.Support(z, n)
			if got != greatest(n, all) {
				t.Fatalf("Support(%v, %v) is %d, not %d", z, n, got, greatest(n, all))
			}
			if !slices.ContainsFunc(corners, func(p api.Point) bool { return value(n, p) == got }) {
				t.Fatalf("Support(%v, %v) is no value of a corner", z, n)
			}
		}
	}
}

func TestSupportOfOthers(t *testing.T) {
	z := zonogonOf(1, 7, point(4, 0), point(0, 2), point(-3, 5))
	for _, n := range beyond(mostGen) {
		if zonogon.Support(z, point(n, 0)) != 0 || zonogon.Support(z, point(0, n)) != 0 || zonogon.Support(z, point(n, n)) != 0 || zonogon.Support(z, point(1, n)) != 0 {
			t.Errorf("the support for %d is not 0", n)
		}
	}
	for _, bad := range badZonogons() {
		for _, n := range []api.Point{point(1, 0), point(0, 1), point(-1, -1), point(mostGen, 3)} {
			if got := zonogon.Support(bad, n); got != 0 {
				t.Errorf("Support(%v, %v) is %d", bad, n, got)
			}
		}
	}
}

// A point is in a zonogon exactly if no value of it is above the support. The normals of the edges, which decide it, are small here.
func TestHasAndSupport(t *testing.T) {
	s := source(7)
	var l []api.Zonogon
	for i := range 60 {
		l = append(l, s.zonogon(i%5, 2))
	}
	for _, z := range l {
		for y := z.Y2 - 9; y <= z.Y2+9; y++ {
			for x := z.X2 - 9; x <= z.X2+9; x++ {
				below := true
				for i := range 25 {
					n := point(i%5-2, i/5-2)
					below = below && value(n, point(x, y)) <= zonogon.Support(z, n)
				}
				if zonogon.Has(z, x, y) != below {
					t.Fatalf("Has(%v, %d, %d) is %t", z, x, y, !below)
				}
			}
		}
	}
}

func TestBounds(t *testing.T) {
	for _, z := range zonogons() {
		l := ends(z)
		want := rect(-greatest(point(-1, 0), l), -greatest(point(0, -1), l), greatest(point(1, 0), l), greatest(point(0, 1), l))
		if got, e := zonogon.Bounds(z); e != api.OK || got != want {
			t.Fatalf("Bounds(%v) is %v with the error %d, not %v", z, got, e, want)
		}
	}
	for _, z := range badZonogons() {
		if got, e := zonogon.Bounds(z); e != api.ErrArg || got != (api.Rect{}) {
			t.Errorf("Bounds(%v) is %v with the error %d", z, got, e)
		}
	}
}

func TestArea(t *testing.T) {
	for _, z := range zonogons() {
		corners := polygon(z)
		// Twice the area in doubled coordinates is eight times the area.
		sum := 0
		for i, p := range corners {
			sum += side(corners[0], p, corners[(i+1)%len(corners)])
		}
		if got := zonogon.Area(z); got*8 != sum {
			t.Fatalf("Area(%v) is %d, not %d/8", z, got, sum)
		}
	}
	if got := zonogon.Area(zonogonOf(0, 0, append(repeated(8, point(mostGen, mostGen)), repeated(8, point(mostGen, -mostGen))...)...)); got != 1<<39 {
		t.Errorf("the greatest area is %d", got)
	}
	for _, z := range badZonogons() {
		if got := zonogon.Area(z); got != 0 {
			t.Errorf("Area(%v) is %d", z, got)
		}
	}
}

func TestCorners(t *testing.T) {
	for _, c := range []struct {
		z    api.Zonogon
		want []api.Point
	}{
		{zonogonOf(3, -5), []api.Point{point(3, -5)}},
		{zonogonOf(3, -5, point(0, 0)), []api.Point{point(3, -5)}},
		{zonogonOf(0, 0, point(-3, 5)), []api.Point{point(3, -5), point(-3, 5)}},
		{zonogonOf(0, 0, point(3, -5), point(-6, 10)), []api.Point{point(9, -15), point(-9, 15)}},
		{zonogonOf(1, 1, point(-4, 0)), []api.Point{point(-3, 1), point(5, 1)}},
		{zonogonOf(1, 1, point(0, -4)), []api.Point{point(1, -3), point(1, 5)}},
		{zonogonOf(0, 0, point(1, 1), point(-1, 1)), []api.Point{point(0, -2), point(2, 0), point(0, 2), point(-2, 0)}},
	} {
		if got := zonogon.Corners(c.z); !slices.Equal(got, c.want) {
			t.Errorf("Corners(%v) is %v", c.z, got)
		}
	}
	for _, z := range zonogons() {
		if got := zonogon.Corners(z); !slices.Equal(got, polygon(z)) {
			t.Fatalf("Corners(%v) is %v", z, got)
		}
		if k := len(normal(z).Gens); k > 1 && len(zonogon.Corners(z)) != 2*k {
			t.Fatalf("%v has not %d corners", z, 2*k)
		}
	}
	for _, z := range badZonogons() {
		if got := zonogon.Corners(z); len(got) != 0 {
			t.Errorf("Corners(%v) is %v", z, got)
		}
	}
}

// P7.1 and P7.5

// spot is a point with fractions as coordinates.
type spot [2]*big.Rat

// clip leaves the part of the polygon with a coordinate of at most the limit if sign is 1, of at least the limit if it is -1.
func clip(corners []spot, axis, sign, limit int) []spot {
	outside := func(p spot) *big.Rat {
		d := new(big.Rat).Sub(p[axis], big.NewRat(int64(limit), 1))
		return d.Mul(d, big.NewRat(int64(sign), 1))
	}
	var l []spot
	for i, p := range corners {
		q := corners[(i+1)%len(corners)]
		a, b := outside(p), outside(q)
		if a.Sign() <= 0 {
			l = append(l, p)
		}
		if a.Sign()*b.Sign() < 0 {
			// p + (q - p)*a/(a - b) is on the limit.
			f := new(big.Rat).Quo(a, new(big.Rat).Sub(a, b))
			var on spot
			for k := range on {
				on[k] = new(big.Rat).Sub(q[k], p[k])
				on[k].Mul(on[k], f).Add(on[k], p[k])
			}
			l = append(l, on)
		}
	}
	return l
}

// touches tells whether the polygon has a point in common with the rectangle, both in doubled coordinates: whether anything is left of the polygon within the limits of the rectangle.
func touches(corners []api.Point, r api.Rect) bool {
	var l []spot
	for _, p := range corners {
		l = append(l, spot{big.NewRat(int64(p.X), 1), big.NewRat(int64(p.Y), 1)})
	}
	l = clip(clip(l, 0, 1, r.X1), 0, -1, r.X0)
	l = clip(clip(l, 1, 1, r.Y1), 1, -1, r.Y0)
	return len(l) > 0
}

// wantApart checks Apart of a rectangle in units.
func wantApart(t *testing.T, z api.Zonogon, r api.Rect) {
	t.Helper()
	want := !touches(polygon(z), rect(2*r.X0, 2*r.Y0, 2*r.X1, 2*r.Y1))
	if got := zonogon.Apart(z, r); got != want {
		t.Fatalf("Apart(%v, %v) is %t", z, r, got)
	}
}

func TestApart(t *testing.T) {
	s := source(8)
	l := smallZonogons()
	for i := range 60 {
		l = append(l, s.zonogon(i%5, 3))
	}
	for _, z := range l {
		for range 120 {
			p, q := s.point(9), s.point(3)
			wantApart(t, z, rect(p.X, p.Y, p.X+max(q.X, -q.X), p.Y+max(q.Y, -q.Y)))
		}
	}
	for _, z := range []api.Zonogon{s.zonogon(6, mostGen), s.zonogon(5, mostGen), s.zonogon(6, 1000), s.zonogon(3, 100000/2)} {
		for range 300 {
			p, q := s.point(mostGen), s.point(mostGen)
			wantApart(t, z, rect(min(p.X, q.X), min(p.Y, q.Y), max(p.X, q.X), max(p.Y, q.Y)))
		}
	}
}

// A rectangle that has just a corner or an edge in common, and one that lies a unit away.
func TestApartByAUnit(t *testing.T) {
	for _, z := range []api.Zonogon{zonogonOf(0, 0, point(6, 2), point(2, 6)), zonogonOf(2, 4, point(3, 1), point(-1, 3), point(0, 2)), zonogonOf(0, 0, point(2, 2)), zonogonOf(4, 4)} {
		for _, c := range zonogon.Corners(z) {
			for dy := -1; dy <= 1; dy++ {
				for dx := -1; dx <= 1; dx++ {
					x, y := c.X/2+dx, c.Y/2+dy
					wantApart(t, z, rect(x, y, x, y))
					wantApart(t, z, rect(x, y, x+5, y+5))
					wantApart(t, z, rect(x-5, y-5, x, y))
					wantApart(t, z, rect(x-5, y, x, y+5))
					wantApart(t, z, rect(x, y-5, x+5, y))
				}
			}
		}
	}
	// The bounds of both have points in common, but an edge lies between them.
	diamond := zonogonOf(0, 0, point(10, 10), point(-10, 10))
	if !zonogon.Apart(diamond, rect(6, 5, 9, 9)) || zonogon.Apart(diamond, rect(5, 5, 9, 9)) || zonogon.Apart(diamond, rect(-9, -9, 9, 9)) || zonogon.Apart(diamond, rect(0, 0, 1, 1)) {
		t.Error("Apart of a diamond")
	}
	// A center at half a unit.
	if !zonogon.Apart(zonogonOf(1, 1), rect(0, 0, 0, 0)) || zonogon.Apart(zonogonOf(1, 1), rect(0, 0, 1, 1)) || zonogon.Apart(zonogonOf(1, 0, point(1, 0)), rect(1, 0, 1, 0)) {
		t.Error("Apart of a point between the units")
	}
}

func TestApartOfAPointIsHas(t *testing.T) {
	for _, z := range zonogons() {
		for _, c := range append(zonogon.Corners(z), point(z.X2, z.Y2)) {
			for dy := -1; dy <= 1; dy++ {
				for dx := -1; dx <= 1; dx++ {
					x, y := c.X/2+dx, c.Y/2+dy
					if max(x, -x, y, -y) <= mostLine && zonogon.Apart(z, rect(x, y, x, y)) == zonogon.Has(z, 2*x, 2*y) {
						t.Fatalf("Apart(%v) of the point (%d, %d)", z, x, y)
					}
				}
			}
		}
	}
}

func TestApartAtTheLimits(t *testing.T) {
	whole := rect(-mostLine, -mostLine, mostLine, mostLine)
	for _, z := range []api.Zonogon{{}, zonogonOf(2*mostLine, -2*mostLine), zonogonOf(5, 6, fan(16)...), zonogonOf(2*mostLine+mostGen, 0, point(mostGen, 1))} {
		if zonogon.Apart(z, whole) {
			t.Errorf("%v is apart from the greatest rectangle", z)
		}
	}
	for _, z := range []api.Zonogon{
		zonogonOf(2*mostLine+1, 0), zonogonOf(0, -2*mostLine-1), zonogonOf(2*mostLine+mostGen+1, 0, point(mostGen, 1)), zonogonOf(mostMiddle, mostMiddle, repeated(16, point(mostGen, mostGen))...),
	} {
		if !zonogon.Apart(z, whole) {
			t.Errorf("%v is not apart from the greatest rectangle", z)
		}
	}
	for _, n := range []int{-mostLine, mostLine} {
		if zonogon.Apart(zonogonOf(2*n, 2*n), rect(n, n, n, n)) || !zonogon.Apart(api.Zonogon{}, rect(n, 0, n, 0)) || !zonogon.Apart(api.Zonogon{}, rect(0, n, 0, n)) {
			t.Errorf("Apart of a point at %d", n)
		}
	}
}

func TestApartOfOthers(t *testing.T) {
	l := []api.Rect{rect(6, 5, 5, 5), rect(5, 6, 5, 5), rect(mostLine, 5, -mostLine, 5), rect(9, 9, 8, 8)}
	for _, n := range beyond(mostLine) {
		l = append(l, rect(n, 5, n, 5), rect(5, n, 5, n), rect(n, n, n, n), rect(min(n, 5), 5, max(n, 5), 5), rect(5, min(n, 5), 5, max(n, 5)))
	}
	for _, z := range []api.Zonogon{{}, zonogonOf(1, 2, point(1, 2), point(2, 1))} {
		for _, r := range l {
			if zonogon.Apart(z, r) {
				t.Errorf("%v is apart from %v", z, r)
			}
		}
	}
	for _, z := range badZonogons() {
		if zonogon.Apart(z, rect(1000, 1000, 1001, 1001)) || zonogon.Apart(z, rect(5, 5, 4, 4)) {
			t.Errorf("%v is apart from a rectangle", z)
		}
	}
}
