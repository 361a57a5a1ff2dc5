package segment_test

import (
	"math"
	"testing"

	"wayfinder/api"
	"wayfinder/segment"
)

// wantTouch compares with the least distance, for radiuses around it and the greatest one.
func wantTouch(t *testing.T, p, q api.Point, r api.Rect) {
	t.Helper()
	least := nearest(p, q, r)
	n := 0
	for n < 1024 && rat(n*n, 1).Cmp(least) < 0 {
		n++
	}
	for _, k := range []int{0, n - 2, n - 1, n, n + 1, 1024} {
		want := k >= 0 && k <= 1024 && least.Cmp(rat(k*k, 1)) <= 0
		if got := segment.Touch(p, q, r, k); got != want {
			t.Fatalf("Touch(%v, %v, %v, %d) is %t, the squared distance is %v", p, q, r, k, got, least)
		}
	}
}

// P5.1

func TestTouchExamples(t *testing.T) {
	for _, c := range []struct {
		p, q   api.Point
		r      api.Rect
		radius int
	}{
		{point(0, 0), point(10, 0), rect(5, 3, 8, 9), 3},
		{point(0, 0), point(10, 0), rect(12, 3, 18, 9), 4},
		{point(0, 0), point(10, 0), rect(13, 4, 18, 9), 5},
		{point(10, 0), point(0, 0), rect(13, 4, 18, 9), 5},
		{point(0, 0), point(10, 0), rect(-9, -9, -3, -4), 5},
		{point(3, 4), point(3, 4), rect(0, 0, 0, 0), 5},
		{point(0, 0), point(0, 0), rect(1, 1, 2, 2), 2},
		// A corner beside the middle of a slanting segment, exactly 5 away from it.
		{point(0, 0), point(8, 6), rect(7, -1, 20, -1), 5},
		{point(0, 0), point(8, 6), rect(-20, 7, 1, 20), 5},
		{point(0, 0), point(1024, 768), rect(512+600, 384-800, 2000, -416), 1000},
		{point(0, 0), point(1024, 768), rect(512+600, -5000, 2000, 384-799), 1000},
		// Cells around which the robot drives.
		{point(32, 32), point(44, 32), rect(64, 0, 128, 64), 20},
		{point(32, 32), point(32, 32), rect(64, 0, 128, 64), 32},
	} {
		if !segment.Touch(c.p, c.q, c.r, c.radius) || segment.Touch(c.p, c.q, c.r, c.radius-1) {
			t.Errorf("Touch(%v, %v, %v) with %d or one less", c.p, c.q, c.r, c.radius)
		}
	}
	// They have a point in common: at an end, at a corner, across, inside, along an edge.
	for _, c := range []struct {
		p, q api.Point
		r    api.Rect
	}{
		{point(0, 0), point(10, 0), rect(10, 0, 20, 20)}, {point(0, 0), point(10, 10), rect(5, 0, 20, 5)}, {point(0, 0), point(10, 10), rect(3, 4, 5, 6)},
		{point(4, 4), point(5, 5), rect(0, 0, 9, 9)}, {point(0, 0), point(9, 0), rect(3, -4, 5, 0)}, {point(3, 3), point(3, 3), rect(3, 3, 3, 3)},
		{point(-512, 0), point(512, 1), rect(0, 0, 0, 1)},
	} {
		if !segment.Touch(c.p, c.q, c.r, 0) || !segment.Touch(c.q, c.p, c.r, 0) {
			t.Errorf("Touch(%v, %v, %v, 0)", c.p, c.q, c.r)
		}
	}
}

func TestTouchLimits(t *testing.T) {
	o, near := point(0, 0), rect(0, 0, 9, 9)
	for _, c := range []struct {
		q      api.Point
		radius int
		want   bool
	}{
		{point(1024, 1024), 0, true}, {point(-1024, 1024), 1024, true}, {point(1025, 0), 0, false}, {point(-1025, 0), 9, false},
		{point(0, 1025), 0, false}, {point(0, -1025), 9, false}, {point(5, 5), -1, false}, {point(5, 5), 1024, true}, {point(5, 5), 1025, false},
		{point(5, 5), math.MaxInt, false}, {point(5, 5), math.MinInt, false}, {point(5, 5), 1 << 32, false}, {point(most, 0), 1024, false},
	} {
		if segment.Touch(o, c.q, near, c.radius) != c.want || segment.Touch(c.q, o, near, c.radius) != c.want {
			t.Errorf("Touch to %v with %d", c.q, c.radius)
		}
	}
	// The square of the product of these vectors is 2^64.
	p, c := point(0, -600), point(500-most, most-100)
	if segment.Touch(p, point(1024, 424), rect(c.X, c.Y, c.X, c.Y), 0) || segment.Touch(p, point(1024, 424), rect(c.X, c.Y, c.X, most), 1024) {
		t.Error("far from a corner")
	}
}

func TestTouchInvalid(t *testing.T) {
	o, r := point(0, 0), rect(-9, -9, 9, 9)
	for _, p := range badPoints() {
		if segment.Touch(p, o, r, 1024) || segment.Touch(o, p, r, 1024) || segment.Touch(p, p, r, 1024) {
			t.Errorf("Touch with %v", p)
		}
	}
	for _, c := range badRects() {
		if segment.Touch(o, o, c, 1024) || segment.Touch(o, point(5, 5), c, 0) {
			t.Errorf("Touch with %v", c)
		}
	}
	// Their difference wraps around to -1.
	if segment.Touch(point(math.MinInt, 0), point(math.MaxInt, 0), r, 1024) {
		t.Error("Touch from end to end of the integers")
	}
}

func TestTouchSmall(t *testing.T) {
	p := point(0, 0)
	coords := []int{-6, -2, 0, 1, 3, 7}
	for x := range 5 {
		for y := -4; y <= 4; y++ {
			for i, x0 := range coords {
				for _, x1 := range coords[i:] {
					for j, y0 := range coords {
						for _, y1 := range coords[j:] {
							wantTouch(t, p, point(x, y), rect(x0, y0, x1, y1))
						}
					}
				}
			}
		}
	}
}

func TestTouchLarge(t *testing.T) {
	var s source
	for range 4000 {
		p, way := s.point(most-1024), s.point(1024)
		q := moved(p, way.X, way.Y)
		a, b := s.point(2000), s.point(2000)
		r := movedRect(rect(min(a.X, b.X), min(a.Y, b.Y), max(a.X, b.X), max(a.Y, b.Y)), p.X, p.Y)
		// Far corners, but not far edges.
		wide, tall := r, r
		wide.X0, wide.X1 = -most, most
		tall.Y0, tall.Y1 = -most, most
		for _, c := range []api.Rect{r, wide, tall, s.rect(most)} {
			if segment.ValidRect(c) {
				wantTouch(t, p, q, c)
			}
		}
	}
}

func TestTouchAtLimits(t *testing.T) {
	for _, x := range []int{-most, most} {
		for _, y := range []int{-most, most} {
			p, q := point(x, y), point(x-1024*x/most, y-1000*y/most)
			for _, r := range []api.Rect{
				rect(-most, -most, most, most), rect(x, y, x, y), rect(-x, -y, -x, -y), rect(-most, 0, most, 0), rect(0, -most, 0, most),
				rect(min(x, 0), min(y, 0), max(x, 0), max(y, 0)), rect(-most+600, -most+600, most-600, most-600), rect(-most+1500, -most+1500, most-1500, most-1500),
			} {
				wantTouch(t, p, q, r)
				wantTouch(t, q, p, r)
			}
		}
	}
}

// P5.5

func TestTouchWithRadius(t *testing.T) {
	var s source
	for range 3000 {
		p := s.point(60)
		q, r := moved(p, s.next(-40, 40), s.next(-40, 40)), s.rect(60)
		touched := false
		for k := range 90 {
			got := segment.Touch(p, q, r, k)
			if touched && !got {
				t.Fatalf("Touch(%v, %v, %v, %d) is false, but not with a smaller radius", p, q, r, k)
			}
			touched = got
			if segment.Touch(p, p, r, k) != (segment.Gap(p, r) <= k*k) {
				t.Fatalf("Touch(%v, %v, %v, %d), and the gap is %d", p, p, r, k, segment.Gap(p, r))
			}
		}
		if segment.Touch(p, q, r, 0) != (nearest(p, q, r).Sign() == 0) {
			t.Fatalf("Touch(%v, %v, %v, 0)", p, q, r)
		}
	}
	for range 3000 {
		p, r := s.point(most), s.rect(most)
		for _, c := range []api.Rect{r, rect(p.X, p.Y, p.X, p.Y), movedIn(rect(700, -600, 900, 500), p), movedIn(rect(-900, 600, -700, 800), p)} {
			for _, k := range []int{0, 1, 699, 700, 701, 921, 922, 1024} {
				if segment.Touch(p, p, c, k) != (segment.Gap(p, c) <= k*k) {
					t.Fatalf("Touch(%v, %v, %v, %d), and the gap is %d", p, p, c, k, segment.Gap(p, c))
				}
			}
		}
	}
}

// movedIn is r, seen from p, as far as its coordinates are permitted.
func movedIn(r api.Rect, p api.Point) api.Rect {
	clip := func(n int) int { return max(-most, min(n, most)) }
	m := movedRect(r, p.X, p.Y)
	return rect(clip(m.X0), clip(m.Y0), clip(m.X1), clip(m.Y1))
}
