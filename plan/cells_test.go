package plan_test

import (
	"slices"
	"testing"

	"wayfinder/api"
	"wayfinder/plan"
	"wayfinder/segment"
)

// P8.1
func TestCellExamples(t *testing.T) {
	c, ok := plan.Of(point(64, -1))
	if c != cell(1, -1) || !ok {
		t.Errorf("Of((64, -1)) is %v, %v", c, ok)
	}
	wantCells(t, "Around((64, 10))", plan.Around(point(64, 10)), api.OK, []api.Cell{cell(0, 0), cell(1, 0)})
	wantCells(t, "Around((64, 64))", plan.Around(point(64, 64)), api.OK, []api.Cell{cell(0, 0), cell(1, 0), cell(0, 1), cell(1, 1)})
	l, e := plan.Traced(point(32, 32), vector(1, 0, 1), 0, 32)
	wantCells(t, "Traced", l, e, []api.Cell{cell(0, 0), cell(1, 0)})
	l, e = plan.Traced(point(32, 32), vector(1, 0, 1), 0, 31)
	wantCells(t, "Traced", l, e, []api.Cell{cell(0, 0)})
	l, e = plan.Swept(rect(0, 0, 64, 0), vector(0, 1, 1), 10, 20)
	wantCells(t, "Swept", l, e, []api.Cell{cell(-1, 0), cell(0, 0), cell(1, 0)})
	l, e = plan.Cells(rect(1, 63, 65, 63))
	wantCells(t, "Cells", l, e, []api.Cell{cell(0, 0), cell(1, 0)})
}

// P8.1
func TestSquare(t *testing.T) {
	for _, x := range []int{0, 1, -1, 7, 63, -64, mostCell - 1, mostCell, -mostCell, 1 - mostCell} {
		for _, y := range []int{0, -5, mostCell, -mostCell} {
			r, ok := plan.Square(cell(x, y))
			if r != rect(64*x, 64*y, 64*x+64, 64*y+64) || !ok {
				t.Errorf("Square((%d, %d)) is %v, %v", x, y, r, ok)
			}
		}
	}
	for _, n := range beyond(mostCell) {
		for _, c := range []api.Cell{cell(n, 0), cell(0, n), cell(n, n), cell(mostCell, n)} {
			if r, ok := plan.Square(c); r != (api.Rect{}) || ok {
				t.Errorf("Square(%v) is %v, %v", c, r, ok)
			}
		}
	}
}

// spread are coordinates at the sides of cells, between them, and at the limits.
func spread() []int {
	l := []int{mostCoord, mostCoord - 1, mostCoord - 63, mostCoord - 64, mostCoord - 65}
	for n := range 66 {
		l = append(l, n)
	}
	for _, n := range slices.Clone(l) {
		l = append(l, -n)
	}
	return l
}

// side tells by the definition which row (or column) of cells begins at n or below it, and which others touch n.
func side(n int) (int, []int) {
	var l []int
	last := 0
	for c := n/64 - 3; c <= n/64+3; c++ {
		if 64*c <= n && n <= 64*c+64 {
			l = append(l, c)
		}
		if 64*c <= n && n < 64*c+64 {
			last = c
		}
	}
	return last, l
}

// P8.1, P8.3
func TestOfAndAround(t *testing.T) {
	for _, x := range spread() {
		cx, columns := side(x)
		for _, y := range spread() {
			cy, rows := side(y)
			var want []api.Cell
			for _, b := range rows {
				for _, a := range columns {
					want = append(want, cell(a, b))
				}
			}
			c, ok := plan.Of(point(x, y))
			if c != cell(cx, cy) || !ok {
				t.Errorf("Of((%d, %d)) is %v, %v", x, y, c, ok)
			}
			around := plan.Around(point(x, y))
			wantCells(t, "Around", around, api.OK, want)
			if !slices.Contains(around, c) {
				t.Errorf("Of((%d, %d)) is not in Around", x, y)
			}
			l, e := plan.Cells(rect(x, y, x, y))
			wantCells(t, "Cells of a point", l, e, want)
			for _, c := range around {
				if !inSquare(point(x, y), c) {
					t.Errorf("(%d, %d) is not in %v", x, y, c)
				}
			}
		}
	}
	for _, p := range badPoints() {
		if c, ok := plan.Of(p); c != (api.Cell{}) || ok {
			t.Errorf("Of(%v) is %v, %v", p, c, ok)
		}
		wantNoCells(t, "Around", plan.Around(p), api.OK, api.OK)
	}
}

// common are by the definition the cells whose closed square has a point in common with r.
func common(r api.Rect) []api.Cell {
	var l []api.Cell
	for y := r.Y0/64 - 2; y <= r.Y1/64+2; y++ {
		for x := r.X0/64 - 2; x <= r.X1/64+2; x++ {
			if 64*x <= r.X1 && r.X0 <= 64*x+64 && 64*y <= r.Y1 && r.Y0 <= 64*y+64 {
				l = append(l, cell(x, y))
			}
		}
	}
	return l
}

// P8.1
func TestCells(t *testing.T) {
	s := source(4)
	knots := []int{-129, -128, -127, -65, -64, -63, -1, 0, 1, 63, 64, 65, 127, 128}
	for i, x0 := range knots {
		for _, x1 := range knots[i:] {
			for j, y0 := range knots {
				for _, y1 := range knots[j:] {
					r := rect(x0, y0, x1, y1)
					l, e := plan.Cells(r)
					wantCells(t, "Cells", l, e, common(r))
				}
			}
		}
	}
	for range 200 {
		p := s.point(mostCoord - 4000)
		r := rect(p.X, p.Y, p.X+s.next(0, 4000), p.Y+s.next(0, 4000))
		l, e := plan.Cells(r)
		wantCells(t, "Cells", l, e, common(r))
	}
}

// P8.1
func TestCellsLimits(t *testing.T) {
	for _, c := range []struct {
		r    api.Rect
		want api.Errno
	}{
		// 128 by 64 cells
		{rect(1, 1, 128*64-1, 64*64-1), api.OK},
		{rect(1, 1, 128*64, 64*64-1), api.ErrFull},
		{rect(1, 1, 128*64-1, 64*64), api.ErrFull},
		{rect(0, 1, 128*64-1, 64*64-1), api.ErrFull},
		{rect(1, 0, 128*64-1, 64*64-1), api.ErrFull},
		// 4096 by 2 cells
		{rect(-mostCoord+1, 0, -mostCoord+4096*64-1, 0), api.OK},
		{rect(-mostCoord, 0, -mostCoord+4096*64-1, 0), api.ErrFull},
		{rect(0, mostCoord-4096*64+1, 0, mostCoord-1), api.OK},
		{rect(0, mostCoord-4096*64+1, 0, mostCoord), api.ErrFull},
		// 8191 and 8192 by 1 cells, and more
		{rect(1, 1, 8191*64-1, 1), api.OK},
		{rect(1, 1, 8192*64-1, 63), api.OK},
		{rect(1, 1, 8192*64, 63), api.ErrFull},
		{rect(-mostCoord, -mostCoord, mostCoord, mostCoord), api.ErrFull},
		{rect(-mostCoord, 5, mostCoord, 5), api.ErrFull},
	} {
		l, e := plan.Cells(c.r)
		if c.want == api.OK {
			wantCells(t, "Cells", l, e, common(c.r))
		} else {
			wantNoCells(t, "Cells", l, e, c.want)
		}
	}
	for _, r := range badRects() {
		l, e := plan.Cells(r)
		wantNoCells(t, "Cells", l, e, api.ErrArg)
	}
}

// swept are by the definition of layer 5 (P5.4) the cells of Swept: all cells near the way are tried.
func swept(r api.Rect, v api.Vector, lo, hi int) []api.Cell {
	var l []api.Cell
	x0, x1 := reach(r.X0, r.X1, v.X, v.D, hi)
	y0, y1 := reach(r.Y0, r.Y1, v.Y, v.D, hi)
	for y := y0; y <= y1; y++ {
		for x := x0; x <= x1; x++ {
			m, ok := segment.Minus(rect(64*x, 64*y, 64*x+64, 64*y+64), r)
			if ok && segment.Meets(point(0, 0), v, lo, hi, m) {
				l = append(l, cell(x, y))
			}
		}
	}
	return l
}

// reach is a range of rows that has all those within the distance hi of the numbers from a to b.
func reach(a, b, step, d, hi int) (int, int) {
	far := hi*step/d + 2
	if step < 0 {
		return (a+far-4)/64 - 2, b/64 + 2
	}
	return a/64 - 2, (b+far)/64 + 2
}

// wantSwept compares Swept with the definition.
func wantSwept(t *testing.T, r api.Rect, v api.Vector, lo, hi int) {
	t.Helper()
	l, e := plan.Swept(r, v, lo, hi)
	if want := swept(r, v, lo, hi); e != api.OK || !slices.Equal(l, want) {
		t.Errorf("Swept(%v, %v, %d, %d) is %v, %v, not %v", r, v, lo, hi, l, e, want)
	}
}

// P8.1, P8.4
func TestTraced(t *testing.T) {
	s := source(5)
	for _, v := range vectors() {
		for range 40 {
			p := point(16*s.next(-20, 20), 16*s.next(-20, 20))
			if s.next(0, 1) == 0 {
				p = s.point(mostCoord)
			}
			lo := s.next(0, 400)
			for _, d := range [][2]int{{0, 0}, {lo, lo}, {lo, lo + s.next(0, 300)}, {0, 16 * s.next(0, 128)}, {16 * s.next(0, 64), 2048}} {
				l, e := plan.Traced(p, v, d[0], d[1])
				wantCells(t, "Traced", l, e, swept(spot(p), v, d[0], d[1]))
				wantSwept(t, spot(p), v, d[0], d[1])
			}
		}
	}
}

// P8.1: from (32, 32) with the slope 4/3 the ray is at x = 32 + 3s/5 and y = 32 + 4s/5.
func TestTracedByHand(t *testing.T) {
	v := vector(3, 4, 5)
	for _, c := range []struct {
		lo, hi int
		want   []api.Cell
	}{
		{0, 39, []api.Cell{cell(0, 0)}},
		// (56, 64)
		{0, 40, []api.Cell{cell(0, 0), cell(0, 1)}},
		{40, 40, []api.Cell{cell(0, 0), cell(0, 1)}},
		{41, 53, []api.Cell{cell(0, 1)}},
		// x = 64 at 53 1/3
		{41, 54, []api.Cell{cell(0, 1), cell(1, 1)}},
		{54, 54, []api.Cell{cell(1, 1)}},
		// (104, 128)
		{54, 120, []api.Cell{cell(1, 1), cell(1, 2)}},
	} {
		l, e := plan.Traced(point(32, 32), v, c.lo, c.hi)
		wantCells(t, "Traced", l, e, c.want)
	}
	// exactly through the corner (64, 64): from (16, 0)
	l, e := plan.Traced(point(16, 0), v, 80, 80)
	wantCells(t, "Traced", l, e, []api.Cell{cell(0, 0), cell(1, 0), cell(0, 1), cell(1, 1)})
	l, e = plan.Traced(point(16, 0), v, 1, 100)
	wantCells(t, "Traced", l, e, []api.Cell{cell(0, 0), cell(1, 0), cell(0, 1), cell(1, 1)})
}

// P8.1
func TestSwept(t *testing.T) {
	s := source(6)
	for _, v := range vectors() {
		for range 25 {
			p := point(16*s.next(-20, 20), 16*s.next(-20, 20))
			r := rect(p.X, p.Y, p.X+16*s.next(0, 12), p.Y+16*s.next(0, 12))
			if s.next(0, 1) == 0 {
				p = s.point(mostCoord - 300)
				r = rect(p.X, p.Y, p.X+s.next(0, 300), p.Y+s.next(0, 300))
			}
			lo := s.next(0, 300)
			for _, d := range [][2]int{{0, 0}, {lo, lo}, {lo, lo + s.next(0, 300)}, {16 * s.next(0, 20), 16 * s.next(20, 40)}} {
				wantSwept(t, r, v, d[0], d[1])
			}
		}
	}
}

// P8.1: the widest rectangles and the longest ways, at the ends of the plane too.
func TestSweptAtTheLimits(t *testing.T) {
	m := mostCoord
	rects := []api.Rect{rect(-m, -m, -m, -m), rect(m, m, m, m), rect(m, -m, m, -m), rect(m-1024, m-1024, m, m), rect(-m, -m, 1024-m, 1024-m), rect(-512, -512, 512, 512), rect(0, 1, 1024, 1), rect(7, 0, 7, 1024), rect(m-64, -m, m, 3-m)}
	for _, r := range rects {
		for _, v := range vectors() {
			wantSwept(t, r, v, 0, 2048)
			wantSwept(t, r, v, 2048, 2048)
			wantSwept(t, r, v, 0, 0)
		}
	}
}

// P8.4: Swept has the cells of Traced from every point, and these are all that it has, since a square is wider than the way between two integer points.
func TestSweptIsTracedFromAllPoints(t *testing.T) {
	s := source(7)
	for range 300 {
		p := point(s.next(-70, 70), s.next(-70, 70))
		r := rect(p.X, p.Y, p.X+s.next(0, 20), p.Y+s.next(0, 20))
		v, lo := s.vector(), s.next(0, 100)
		hi := lo + s.next(0, 100)
		var want []api.Cell
		for x := r.X0; x <= r.X1; x++ {
			for y := r.Y0; y <= r.Y1; y++ {
				l, _ := plan.Traced(point(x, y), v, lo, hi)
				want = append(want, l...)
			}
		}
		slices.SortFunc(want, byYX)
		l, e := plan.Swept(r, v, lo, hi)
		wantCells(t, "Swept", l, e, slices.Compact(want))
	}
}

// P8.4
func TestSweptGrows(t *testing.T) {
	s := source(8)
	for range 2000 {
		p := s.point(500)
		r := rect(p.X, p.Y, p.X+s.next(0, 200), p.Y+s.next(0, 200))
		v, lo := s.vector(), s.next(0, 300)
		hi := lo + s.next(0, 300)
		l, _ := plan.Swept(r, v, lo, hi)
		longer, _ := plan.Swept(r, v, lo-s.next(0, lo), hi+s.next(0, 300))
		wider, _ := plan.Swept(rect(r.X0-s.next(0, 50), r.Y0-s.next(0, 50), r.X1+s.next(0, 50), r.Y1+s.next(0, 50)), v, lo, hi)
		if len(l) == 0 || !subset(l, longer) || !subset(l, wider) {
			t.Errorf("Swept(%v, %v, %d, %d) is %v; longer %v; wider %v", r, v, lo, hi, l, longer, wider)
		}
	}
}

// badRanges are distances that are not permitted.
func badRanges() [][2]int {
	l := [][2]int{{-1, 0}, {-1, -1}, {1, 0}, {5, 4}, {0, 2049}, {2048, 2047}, {2049, 2049}, {-5, 3000}}
	for _, n := range extremes {
		l = append(l, [2]int{n, n}, [2]int{0, max(n, -n-1)}, [2]int{min(n, -n-1), 0})
	}
	return l
}

// P8.1
func TestTracedErrors(t *testing.T) {
	v := vector(3, 4, 5)
	for _, p := range badPoints() {
		for _, d := range [][2]int{{0, 1}, {1, 0}, {0, 2049}} {
			l, e := plan.Traced(p, v, d[0], d[1])
			wantNoCells(t, "Traced from a bad point", l, e, api.ErrArg)
		}
	}
	for _, v := range badVectors() {
		for _, d := range [][2]int{{0, 1}, {1, 0}, {0, 2049}} {
			l, e := plan.Traced(point(0, 0), v, d[0], d[1])
			wantNoCells(t, "Traced along a bad vector", l, e, api.ErrArg)
		}
	}
	for _, d := range badRanges() {
		l, e := plan.Traced(point(0, 0), v, d[0], d[1])
		wantNoCells(t, "Traced at bad distances", l, e, api.ErrRange)
	}
}

// P8.1
func TestSweptErrors(t *testing.T) {
	v := vector(3, 4, 5)
	wide := []api.Rect{rect(0, 0, 1025, 0), rect(0, 0, 0, 1025), rect(-513, -1, 512, 1), rect(-mostCoord, -mostCoord, mostCoord, mostCoord), rect(1, -mostCoord, 1, mostCoord)}
	for _, d := range [][2]int{{0, 1}, {1, 0}, {0, 2049}} {
		for _, r := range badRects() {
			l, e := plan.Swept(r, v, d[0], d[1])
			wantNoCells(t, "Swept of a bad rectangle", l, e, api.ErrArg)
		}
		for _, v := range badVectors() {
			for _, r := range []api.Rect{rect(0, 0, 0, 0), wide[0]} {
				l, e := plan.Swept(r, v, d[0], d[1])
				wantNoCells(t, "Swept along a bad vector", l, e, api.ErrArg)
			}
		}
	}
	for _, d := range badRanges() {
		for _, r := range []api.Rect{rect(0, 0, 9, 9), wide[0], wide[3]} {
			l, e := plan.Swept(r, v, d[0], d[1])
			wantNoCells(t, "Swept at bad distances", l, e, api.ErrRange)
		}
	}
	for _, r := range wide {
		l, e := plan.Swept(r, v, 0, 2048)
		wantNoCells(t, "Swept of a wide rectangle", l, e, api.ErrFull)
	}
}
