package zonogon_test

import (
	"slices"
	"testing"

	"wayfinder/api"
	"wayfinder/zonogon"
)

// P7.1 and P7.3

func TestSumExamples(t *testing.T) {
	a, b := zonogonOf(4, 2, point(4, 0), point(0, 2)), zonogonOf(-3, 5, point(-3, 5))
	got, e := zonogon.Sum(a, b)
	wantZonogon(t, "the sum of the document", got, e, zonogonOf(1, 7, point(4, 0), point(0, 2), point(-3, 5)))
	got, e = zonogon.Sum(b, a)
	wantZonogon(t, "the sum in the other order", got, e, zonogonOf(1, 7, point(4, 0), point(0, 2), point(-3, 5)))
	got, e = zonogon.Sum(a, zonogonOf(1, 1, point(0, -3), point(-1, 0), point(0, 0)))
	wantZonogon(t, "a sum of rectangles", got, e, zonogonOf(5, 3, point(5, 0), point(0, 5)))
	got, e = zonogon.Sum(a, zonogonOf(-9, 9))
	wantZonogon(t, "a moved rectangle", got, e, zonogonOf(-5, 11, point(4, 0), point(0, 2)))
	got, e = zonogon.Sum(api.Zonogon{}, api.Zonogon{})
	wantZonogon(t, "a sum of points", got, e, api.Zonogon{})
}

// sums are the sums of a corner of a and one of b.
func sums(a, b api.Zonogon) []api.Point {
	var l []api.Point
	for _, p := range polygon(a) {
		for _, q := range polygon(b) {
			l = append(l, point(p.X+q.X, p.Y+q.Y))
		}
	}
	return l
}

func TestSumByTheDefinition(t *testing.T) {
	s := source(4)
	l := smallZonogons()
	for i := range 15 {
		l = append(l, s.zonogon(i%5, 3), s.zonogon(i%5, mostGen/16))
	}
	for _, a := range l {
		for _, b := range l {
			got, e := zonogon.Sum(a, b)
			want := hull(sums(a, b))
			if e != api.OK || !equal(got, normal(got)) || !slices.Equal(polygon(got), want) {
				t.Fatalf("Sum(%v, %v) is %v with the error %d", a, b, got, e)
			}
			for range 5 {
				n := s.point(mostGen)
				if zonogon.Support(got, n) != zonogon.Support(a, n)+zonogon.Support(b, n) {
					t.Fatalf("the support of Sum(%v, %v) for %v", a, b, n)
				}
			}
		}
	}
}

func TestSumHasTheSums(t *testing.T) {
	l := smallZonogons()
	for _, a := range l {
		for _, b := range l {
			sum, _ := zonogon.Sum(a, b)
			for y := -6; y <= 6; y++ {
				for x := -6; x <= 6; x++ {
					// The steps differ, so that the points are many different ones.
					p, q := point(a.X2+x, a.Y2+y), point(b.X2-2*y, b.Y2+x)
					if zonogon.Has(a, p.X, p.Y) && zonogon.Has(b, q.X, q.Y) && !zonogon.Has(sum, p.X+q.X, p.Y+q.Y) {
						t.Fatalf("Sum(%v, %v) doesn't have the sum of %v and %v", a, b, p, q)
					}
				}
			}
		}
	}
}

func TestSumAtTheLimits(t *testing.T) {
	for _, c := range []struct{ a, b, want api.Zonogon }{
		{zonogonOf(mostMiddle, -mostMiddle), zonogonOf(0, 0), zonogonOf(mostMiddle, -mostMiddle)},
		{zonogonOf(mostMiddle-5, 5-mostMiddle), zonogonOf(5, -5), zonogonOf(mostMiddle, -mostMiddle)},
		{zonogonOf(mostMiddle, mostMiddle), zonogonOf(-mostMiddle, -1), zonogonOf(0, mostMiddle-1)},
		// The canonical form has few enough generators, though both have many.
		{zonogonOf(0, 0, fan(16)...), zonogonOf(0, 0, fan(16)...), zonogonOf(0, 0, twice(fan(16))...)},
		{zonogonOf(0, 0, fan(16)...), zonogonOf(0, 0, make([]api.Point, 16)...), zonogonOf(0, 0, fan(16)...)},
		{zonogonOf(0, 0, repeated(16, point(2048, 2048))...), zonogonOf(0, 0, repeated(16, point(-2048, -2048))...), zonogonOf(0, 0, point(mostGen, mostGen))},
		{zonogonOf(0, 0, point(mostGen-1, 0)), zonogonOf(0, 0, point(-1, 0)), zonogonOf(0, 0, point(mostGen, 0))},
		{zonogonOf(0, 0, point(0, mostGen)), zonogonOf(0, 0, point(mostGen, 0)), zonogonOf(0, 0, point(mostGen, 0), point(0, mostGen))},
		{zonogonOf(0, 0, point(mostGen, -mostGen)), zonogonOf(0, 0, point(mostGen, mostGen)), zonogonOf(0, 0, point(mostGen, mostGen), point(-mostGen, mostGen))},
	} {
		got, e := zonogon.Sum(c.a, c.b)
		wantZonogon(t, "a sum at the limits", got, e, c.want)
		got, e = zonogon.Sum(c.b, c.a)
		wantZonogon(t, "a sum at the limits, in the other order", got, e, c.want)
	}
}

// twice is a list of the doubled generators.
func twice(l []api.Point) []api.Point {
	var m []api.Point
	for _, g := range l {
		m = append(m, point(2*g.X, 2*g.Y))
	}
	return m
}

func TestSumErrors(t *testing.T) {
	for _, c := range [][2]api.Zonogon{
		{zonogonOf(mostMiddle, 0), zonogonOf(1, 0)}, {zonogonOf(-mostMiddle, 0), zonogonOf(-1, 0)}, {zonogonOf(0, mostMiddle), zonogonOf(0, 1)}, {zonogonOf(0, -mostMiddle), zonogonOf(0, -1)},
		{zonogonOf(mostMiddle, mostMiddle), zonogonOf(mostMiddle, mostMiddle)},
		{zonogonOf(0, 0, point(mostGen, 0)), zonogonOf(0, 0, point(1, 0))}, {zonogonOf(0, 0, point(0, -mostGen)), zonogonOf(0, 0, point(0, 1))},
		{zonogonOf(0, 0, point(-mostGen, 2)), zonogonOf(0, 0, point(-mostGen/2, 1))}, {zonogonOf(0, 0, point(2, -mostGen)), zonogonOf(0, 0, point(-1, mostGen/2))},
		{zonogonOf(0, 0, fan(16)...), zonogonOf(0, 0, point(1, 0))}, {zonogonOf(0, 0, fan(16)...), zonogonOf(0, 0, repeated(16, point(-1, 0))...)},
		// The canonical form of one of them is not valid already.
		{zonogonOf(0, 0, repeated(2, point(mostGen, 7))...), api.Zonogon{}},
		{zonogonOf(5, 6, repeated(16, point(mostGen, mostGen))...), zonogonOf(5, 6, repeated(16, point(mostGen, mostGen))...)},
	} {
		got, e := zonogon.Sum(c[0], c[1])
		wantError(t, "Sum", got, e, api.ErrFull)
		got, e = zonogon.Sum(c[1], c[0])
		wantError(t, "Sum in the other order", got, e, api.ErrFull)
	}
	for _, bad := range badZonogons() {
		for _, z := range []api.Zonogon{{}, zonogonOf(mostMiddle, mostMiddle, fan(16)...), bad} {
			got, e := zonogon.Sum(z, bad)
			wantError(t, "Sum with no zonogon", got, e, api.ErrArg)
			got, e = zonogon.Sum(bad, z)
			wantError(t, "Sum of no zonogon", got, e, api.ErrArg)
		}
	}
}

// P7.1 and P7.5

func TestReduceExamples(t *testing.T) {
	z := zonogonOf(0, 0, point(9, 0), point(1, 1), point(0, 9), point(-1, 2))
	for most, want := range map[int]api.Zonogon{
		2: zonogonOf(0, 0, point(11, 0), point(0, 12)), 3: zonogonOf(0, 0, point(11, 0), point(0, 12)),
		4: zonogonOf(0, 0, point(9, 0), point(1, 1), point(0, 9), point(-1, 2)), 16: zonogonOf(0, 0, point(9, 0), point(1, 1), point(0, 9), point(-1, 2)),
	} {
		got, e := zonogon.Reduce(z, most)
		wantZonogon(t, "the zonogon of the document", got, e, want)
	}
	for _, c := range []struct {
		z    api.Zonogon
		most int
		want api.Zonogon
	}{
		{api.Zonogon{}, 2, api.Zonogon{}},
		{zonogonOf(3, 4, point(-1, 0), point(0, 0), point(0, -1)), 2, zonogonOf(3, 4, point(1, 0), point(0, 1))},
		// Its canonical form has two generators.
		{zonogonOf(3, 4, point(5, 1), point(1, 5), point(-5, -1), point(0, 0)), 2, zonogonOf(3, 4, point(10, 2), point(1, 5))},
		// All three are replaced.
		{zonogonOf(3, 4, point(1, 5), point(5, 1), point(-5, 1)), 2, zonogonOf(3, 4, point(11, 0), point(0, 7))},
		// Three of four; of (5, 1), (1, 5) and (-3, 3), which are equally long, those that stand first are replaced.
		{zonogonOf(3, 4, point(-3, 3), point(1, 5), point(5, 1), point(-1, 2)), 3, zonogonOf(3, 4, point(7, 0), point(0, 8), point(-3, 3))},
		{zonogonOf(3, 4, point(-3, 3), point(-1, 5), point(1, 5), point(5, 1), point(-1, 2)), 4, zonogonOf(3, 4, point(7, 0), point(0, 8), point(-1, 5), point(-3, 3))},
		// The order of the given generators doesn't matter.
		{zonogonOf(3, 4, point(-1, 2), point(5, 1), point(1, 5), point(-1, 5), point(-3, 3)), 4, zonogonOf(3, 4, point(7, 0), point(0, 8), point(-1, 5), point(-3, 3))},
		// The sides of the rectangle join generators that stay.
		{zonogonOf(3, 4, point(90, 0), point(0, 90), point(1, 1), point(1, 2), point(1, 3)), 4, zonogonOf(3, 4, point(93, 0), point(0, 96))},
	} {
		got, e := zonogon.Reduce(c.z, c.most)
		wantZonogon(t, "a reduced zonogon", got, e, c.want)
	}
}

// replaced is the zonogon that Reduce makes of z by its definition; z is canonical and has more than most generators. It takes the least one away, again and again.
func replaced(z api.Zonogon, most int) api.Zonogon {
	var x, y int
	l := slices.Clone(z.Gens)
	for range len(z.Gens) + 2 - most {
		least := 0
		for i, g := range l {
			if max(g.X, -g.X)+max(g.Y, -g.Y) < max(l[least].X, -l[least].X)+max(l[least].Y, -l[least].Y) {
				least = i
			}
		}
		x += max(l[least].X, -l[least].X)
		y += max(l[least].Y, -l[least].Y)
		l = slices.Delete(l, least, least+1)
	}
	return normal(zonogonOf(z.X2, z.Y2, append(l, point(x, 0), point(0, y))...))
}

func TestReduceByTheDefinition(t *testing.T) {
	for _, z := range zonogons() {
		for most := 2; most <= 16; most++ {
			want := normal(z)
			if len(want.Gens) > most {
				want = replaced(want, most)
			}
			got, e := zonogon.Reduce(z, most)
			if !zonogon.Valid(want) {
				wantError(t, "Reduce", got, e, api.ErrFull)
				continue
			}
			if e != api.OK || !equal(got, want) || len(got.Gens) > most {
				t.Fatalf("Reduce(%v, %d) is %v with the error %d", z, most, got, e)
			}
			corners := polygon(got)
			for _, p := range polygon(z) {
				if !holds(corners, p) || !zonogon.Has(got, p.X, p.Y) {
					t.Fatalf("Reduce(%v, %d) doesn't have %v", z, most, p)
				}
			}
		}
	}
}

// Of many generators with few lengths, those that stand first are replaced.
func TestReduceOfEqualLengths(t *testing.T) {
	s := source(9)
	for range 200 {
		var l []api.Point
		for _, x := range []int{39, 31, 25, 23, 17, 13, 9, 3, -3, -9, -13, -17, -23, -25, -31, -39} {
			// The lengths are 40 and 46, and no two generators are parallel.
			l = append(l, point(x, 40+6*s.next(0, 1)-max(x, -x)))
		}
		z := zonogonOf(1, 2, l...)
		for most := 2; most < 16; most++ {
			got, e := zonogon.Reduce(z, most)
			if want := replaced(normal(z), most); e != api.OK || !equal(got, want) {
				t.Fatalf("Reduce(%v, %d) is %v with the error %d, not %v", z, most, got, e, want)
			}
		}
	}
}

func TestReduceErrors(t *testing.T) {
	long := zonogonOf(0, 0, repeated(2, point(mostGen, 7))...)
	for _, most := range append([]int{-16, -2, -1, 0, 1, 17, 18}, extremes...) {
		for _, z := range []api.Zonogon{{}, zonogonOf(1, 2, fan(16)...), long} {
			got, e := zonogon.Reduce(z, most)
			wantError(t, "Reduce to a wrong number", got, e, api.ErrRange)
		}
	}
	for _, bad := range badZonogons() {
		for _, most := range append([]int{-1, 0, 1, 2, 16, 17}, extremes...) {
			got, e := zonogon.Reduce(bad, most)
			wantError(t, "Reduce of no zonogon", got, e, api.ErrArg)
		}
	}
	for i, z := range []api.Zonogon{
		long,
		zonogonOf(0, 0, point(0, mostGen), point(0, -1)),
		// The sides of the rectangle are too long, by themselves or with a generator that stays.
		zonogonOf(0, 0, point(mostGen-1, 1), point(1, 1), point(1, 2)),
		zonogonOf(0, 0, point(1, mostGen-2), point(2, 1), point(1, 2)),
		zonogonOf(0, 0, point(mostGen, 0), point(mostGen, mostGen), point(1, 1), point(1, 2), point(1, 3)),
		zonogonOf(0, 0, point(0, mostGen), point(mostGen, mostGen), point(1, 1), point(1, 2), point(1, 3)),
	} {
		most := 2
		if len(z.Gens) == 5 {
			most = 4
		}
		if got, e := zonogon.Reduce(z, most); e != api.ErrFull || !equal(got, api.Zonogon{}) {
			t.Errorf("case %d: %v with the error %d", i, got, e)
		}
	}
	// Just short enough.
	got, e := zonogon.Reduce(zonogonOf(0, 0, point(mostGen-2, 1), point(1, 1), point(1, mostGen-2)), 2)
	wantZonogon(t, "a long zonogon", got, e, zonogonOf(0, 0, point(mostGen, 0), point(0, mostGen)))
}
