package floor_test

import (
	"math"
	"slices"
	"testing"

	"wayfinder/api"
	"wayfinder/floor"
)

// P9.1
func TestCheck(t *testing.T) {
	for _, p := range slices.Concat(tiny(), buildings(), large()) {
		if e := floor.Check(p); e != api.OK {
			t.Errorf("Check(%v) is %v", p, e)
		}
	}
	for _, p := range unknownPlans() {
		if e := floor.Check(p); e != api.ErrForm {
			t.Errorf("Check(%v) is %v", p, e)
		}
	}
	for _, p := range badPlans() {
		if e := floor.Check(p); e != api.ErrArg {
			t.Errorf("Check(%v) is %v", p, e)
		}
	}
}

// outside is the difference of n and the nearest number from lo to hi.
func outside(n, lo, hi int) int {
	return max(lo-n, 0, n-hi)
}

// gap is by the definition the least squared distance from a point to a wall of a building. Of the cells outside, those next to the building are the nearest ones for all points that are not outside themselves.
func gap(p api.Plan, at api.Point) int {
	if at.X <= 0 || at.X >= 64*p.W || at.Y <= 0 || at.Y >= 64*p.H {
		return 0
	}
	least := math.MaxInt
	for y := -1; y <= p.H; y++ {
		for x := -1; x <= p.W; x++ {
			if value(p, cell(x, y)) == api.Wall {
				dx, dy := outside(at.X, 64*x, 64*x+64), outside(at.Y, 64*y, 64*y+64)
				least = min(least, dx*dx+dy*dy)
			}
		}
	}
	return least
}

// wantFits compares Fits with the definition for radiuses around the distance of the walls, and for those at the limits.
func wantFits(t *testing.T, p api.Plan, at api.Point) {
	t.Helper()
	square := gap(p, at)
	root := int(math.Sqrt(float64(square)))
	for _, radius := range []int{0, 1, root - 1, root, root + 1, root / 2, mostRadius - 1, mostRadius, mostRadius + 1} {
		want := 0 <= radius && radius <= mostRadius && radius*radius < square
		if got := floor.Fits(p, at, radius); got != want {
			t.Errorf("Fits(%v, %v, %d) is %v, not %v", p, at, radius, got, want)
		}
	}
}

// P9.1
func TestFitsExamples(t *testing.T) {
	p := rows("...", ".#.")
	for _, c := range []struct {
		at     api.Point
		radius int
		want   bool
	}{
		{point(32, 32), 31, true}, {point(32, 32), 32, false}, {point(32, 32), 0, true},
		{point(64, 64), 0, false}, {point(64, 64), 1, false}, {point(64, 64), 31, false},
		// the nearest point of the wall (1, 1) is its corner (64, 64), at the distance 5 and at one between 5 and 6
		{point(60, 61), 4, true}, {point(60, 61), 5, false}, {point(59, 62), 5, true}, {point(59, 62), 6, false},
		// the sides of the wall, and of the building
		{point(96, 64), 0, false}, {point(96, 63), 0, true}, {point(96, 63), 1, false}, {point(96, 96), 0, false},
		{point(0, 32), 0, false}, {point(1, 32), 0, true}, {point(1, 32), 1, false}, {point(192, 32), 0, false}, {point(191, 32), 0, true},
		{point(32, 0), 0, false}, {point(32, 1), 0, true}, {point(32, 128), 0, false}, {point(32, 127), 0, true}, {point(-1, 32), 0, false}, {point(500, 500), 0, false},
		// the side of two free cells
		{point(64, 32), 31, true}, {point(64, 32), 32, false},
	} {
		if got := floor.Fits(p, c.at, c.radius); got != c.want {
			t.Errorf("Fits(%v, %d) is %v", c.at, c.radius, got)
		}
	}
}

// P9.1
func TestFitsSmall(t *testing.T) {
	for i, p := range tiny() {
		// Each building has a part of the points.
		for y := -1 + i%61; y <= 64*p.H+1; y += 61 {
			for _, x := range []int{0, 1, 20 + i%23, 63 + i%3, 127, 128, 64*p.W - 1} {
				wantFits(t, p, point(x, y))
			}
		}
	}
}

// P9.1
func TestFits(t *testing.T) {
	s := source(3)
	for _, p := range append(buildings(), large()...) {
		for range 60 {
			wantFits(t, p, s.point(p))
		}
	}
}

// P9.1
func TestFitsAtLimits(t *testing.T) {
	s := source(4)
	// From the middle of 2 * n by 2 * n cells, the distance is 64 * n.
	for _, n := range []int{15, 16, 17, 32} {
		p := s.building(2*n, 2*n, 100)
		for _, d := range [][2]int{{0, 0}, {1, 0}, {0, 1}, {-1, 0}, {0, -1}, {63, 63}, {-64, 64}} {
			wantFits(t, p, point(64*n+d[0], 64*n+d[1]))
		}
		// One wall, at the distance 1024 and at lesser and greater ones
		for _, c := range []api.Cell{cell(n, 0), cell(0, n), cell(2*n-1, n-1), cell(n-1, 2*n-1), cell(0, 0), cell(2*n-1, 0)} {
			q := clone(p)
			q.Cells[c.Y*q.W+c.X] = api.Wall
			for range 20 {
				wantFits(t, q, point(64*n+s.next(-70, 70), 64*n+s.next(-70, 70)))
			}
		}
	}
}

// P9.1
func TestFitsInvalid(t *testing.T) {
	s := source(5)
	p, at := s.building(40, 40, 100), point(1280, 1280)
	if !floor.Fits(p, at, 0) || !floor.Fits(p, at, mostRadius) {
		t.Fatal("the disc does not fit")
	}
	for _, radius := range append(extremes, -1, -2, -1024, 1025, 1<<31, -1<<31) {
		if floor.Fits(p, at, radius) {
			t.Errorf("Fits with the radius %d", radius)
		}
	}
	for _, n := range append(beyond(mostCoord), mostCoord, -mostCoord, -1, 0, 2560) {
		for _, at := range []api.Point{point(n, 1280), point(1280, n), point(n, n)} {
			if floor.Fits(p, at, 0) || floor.Fits(p, at, mostRadius) {
				t.Errorf("Fits at %v", at)
			}
		}
	}
	for _, p := range append(badPlans(), unknownPlans()...) {
		for _, at := range []api.Point{point(32, 32), point(1, 1), point(96, 96), point(160, 160)} {
			if floor.Fits(p, at, 0) {
				t.Errorf("Fits(%v, %v, 0) is true", p, at)
			}
		}
	}
}

// P9.2
func TestFitsLess(t *testing.T) {
	s := source(6)
	count := 0
	for _, p := range append(buildings(), large()...) {
		for range 40 {
			at, radius := s.point(p), s.next(0, 50)
			if !floor.Fits(p, at, radius) {
				continue
			}
			count++
			for less := range radius {
				if !floor.Fits(p, at, less) {
					t.Errorf("Fits(%v, %v, %d) is false, but not with %d", p, at, less, radius)
				}
			}
			d := s.next(0, radius)
			dx := s.next(-d, d)
			rest := d - max(dx, -dx)
			dy := s.next(-rest, rest)
			if !floor.Fits(p, point(at.X+dx, at.Y+dy), radius-d) {
				t.Errorf("Fits(%v) at %v with %d, but not moved by (%d, %d) with %d", p, at, radius, dx, dy, radius-d)
			}
		}
	}
	if count < 200 {
		t.Errorf("only %d discs fit", count)
	}
}

// P9.1
func TestSolid(t *testing.T) {
	many := slices.Concat(tiny(), buildings(), large())
	s := source(7)
	for _, n := range [][2]int{{4, 3}, {5, 5}, {64, 64}, {3, 64}} {
		p := s.building(n[0], n[1], 60)
		for i, c := range cellsOf(p) {
			if c.X == 0 || c.Y == 0 || c.X == p.W-1 || c.Y == p.H-1 {
				p.Cells[i] = api.Wall
			}
		}
		many = append(many, p)
		for i := range p.Cells {
			q := clone(p)
			q.Cells[i] = api.Free
			many = append(many, q)
		}
	}
	solid := 0
	for _, p := range many {
		want := true
		for x := range p.W {
			want = want && value(p, cell(x, 0)) == api.Wall && value(p, cell(x, p.H-1)) == api.Wall
		}
		for y := range p.H {
			want = want && value(p, cell(0, y)) == api.Wall && value(p, cell(p.W-1, y)) == api.Wall
		}
		if got := floor.Solid(p); got != want {
			t.Errorf("Solid(%v) is %v", p, got)
		}
		if want {
			solid++
		}
	}
	if solid < 20 {
		t.Errorf("only %d buildings are solid", solid)
	}
	for _, p := range append(badPlans(), unknownPlans()...) {
		if floor.Solid(p) {
			t.Errorf("Solid(%v) is true", p)
		}
	}
	if floor.Solid(rows("###", "#?#", "###")) || !floor.Solid(rows("###", "#.#", "###")) {
		t.Error("Solid of a building with one inner cell")
	}
}

// turned is by the definition p turned by one quarter turn.
func turned(p api.Plan) api.Plan {
	q := planOf(p.H, p.W, make([]byte, len(p.Cells))...)
	for i, c := range cellsOf(p) {
		x, y := p.H-1-c.Y, c.X
		q.Cells[y*p.H+x] = p.Cells[i]
	}
	return q
}

// P9.1, P9.4
func TestTurned(t *testing.T) {
	got, e := floor.Turned(rows("...", ".#."), 1)
	wantPlan(t, "Turned by 1", got, e, rows("..", "#.", ".."))
	got, e = floor.Turned(rows("?#.", ".#?"), 2)
	wantPlan(t, "Turned by 2", got, e, rows("?#.", ".#?"))
	got, e = floor.Turned(rows("?#.", ".?#"), -1)
	wantPlan(t, "Turned by -1", got, e, rows(".#", "#?", "?."))
	for _, p := range slices.Concat(tiny(), buildings(), large(), unknownPlans()) {
		want := clone(p)
		for q := range 5 {
			// -1 << 62 and -1 << 63 are multiples of 4.
			for _, n := range []int{q, q + 4, q - 4, q - 8, q + 400, q - 1<<62, q + math.MinInt} {
				got, e := floor.Turned(p, n)
				wantPlan(t, "Turned", got, e, want)
			}
			want = turned(want)
		}
		got, e := floor.Turned(p, math.MaxInt)
		wantPlan(t, "Turned", got, e, turned(turned(turned(p))))
	}
	for _, p := range badPlans() {
		for _, q := range []int{0, 1, -1, 4, math.MinInt, math.MaxInt} {
			got, e := floor.Turned(p, q)
			wantNoPlan(t, "Turned", got, e, api.ErrArg)
		}
	}
}

// P9.4
func TestTurnedKeeps(t *testing.T) {
	s := source(8)
	for _, p := range append(buildings(), snake(64, 64), s.building(64, 64, 60), s.building(30, 64, 60)) {
		for q := -1; q <= 4; q++ {
			turned, e := floor.Turned(p, q)
			if e != api.OK || floor.Check(turned) != api.OK || floor.Solid(turned) != floor.Solid(p) {
				t.Fatalf("Turned(%v, %d) is %v, %v", p, q, turned, e)
			}
			for range 20 {
				at, radius := s.point(p), s.next(0, 40)
				a, b := cell(s.next(-1, p.W), s.next(-1, p.H)), cell(s.next(0, p.W-1), s.next(0, p.H-1))
				fits, joined := floor.Fits(p, at, radius), floor.Joined(p, a, b)
				w, h := p.W, p.H
				for range (q + 4) % 4 {
					at, a, b = point(64*h-at.Y, at.X), cell(h-1-a.Y, a.X), cell(h-1-b.Y, b.X)
					w, h = h, w
				}
				if floor.Fits(turned, at, radius) != fits || floor.Joined(turned, a, b) != joined {
					t.Errorf("%v turned by %d does not keep what fits or is joined: %v with %d, or %v and %v", p, q, at, radius, a, b)
				}
			}
		}
	}
}

// Results share no memory with arguments, and arguments stay as they are.
func TestMemory(t *testing.T) {
	for _, p := range append(buildings(), unknownPlans()...) {
		before := clone(p)
		floor.Check(p)
		floor.Fits(p, point(32, 32), 10)
		floor.Joined(p, cell(0, 0), cell(0, 0))
		floor.Solid(p)
		floor.Rooms(p)
		for q := -4; q <= 4; q++ {
			turned, _ := floor.Turned(p, q)
			if !equal(p, before) {
				t.Fatalf("%v is changed to %v", before, p)
			}
			for i := range turned.Cells {
				turned.Cells[i] = 7
			}
			if !equal(p, before) {
				t.Fatalf("Turned(%v, %d) shares memory with its argument", before, q)
			}
		}
	}
}
