package floor_test

import (
	"math"
	"slices"
	"strings"
	"testing"

	"wayfinder/api"
)

// The limits of the chapter.
const (
	mostCoord  = 1 << 20
	mostRadius = 1024
	mostMaze   = 63
)

func point(x, y int) api.Point {
	return api.Point{X: x, Y: y}
}

func cell(x, y int) api.Cell {
	return api.Cell{X: x, Y: y}
}

func planOf(w, h int, cells ...byte) api.Plan {
	return api.Plan{W: w, H: h, Cells: cells}
}

// rows is the plan of these rows, listed from y = 0 on, with the bytes of layer 8.
func rows(l ...string) api.Plan {
	p := planOf(len(l[0]), len(l))
	for _, b := range strings.Join(l, "") {
		p.Cells = append(p.Cells, byte(strings.IndexRune("?.#", b)))
	}
	return p
}

// equal tells whether a and b have the same fields.
func equal(a, b api.Plan) bool {
	return a.W == b.W && a.H == b.H && slices.Equal(a.Cells, b.Cells)
}

// clone is a copy of p that shares no memory with it.
func clone(p api.Plan) api.Plan {
	return planOf(p.W, p.H, slices.Clone(p.Cells)...)
}

// value is by the definition what stands at c in a building: everything outside it is wall.
func value(p api.Plan, c api.Cell) byte {
	if c.X < 0 || c.X >= p.W || c.Y < 0 || c.Y >= p.H {
		return api.Wall
	}
	return p.Cells[c.Y*p.W+c.X]
}

// cellsOf are all cells of p, in the order of Cells.
func cellsOf(p api.Plan) []api.Cell {
	var l []api.Cell
	for y := range p.H {
		for x := range p.W {
			l = append(l, cell(x, y))
		}
	}
	return l
}

// extremes are integers whose sums, differences, products and negations may wrap around.
var extremes = []int{math.MinInt, math.MinInt + 1, -1 << 62, -1 << 58, -1 << 32, 1 << 32, 1 << 58, 1 << 62, math.MaxInt - 1, math.MaxInt}

// beyond are integers with a magnitude above the limit.
func beyond(limit int) []int {
	return append([]int{-limit - 1, limit + 1}, extremes...)
}

// outsideOf are cells outside p, next to it and far off.
func outsideOf(p api.Plan) []api.Cell {
	l := []api.Cell{cell(-1, 0), cell(0, -1), cell(p.W, 0), cell(0, p.H), cell(p.W, p.H), cell(-1, -1), cell(p.W, -1), cell(-1, p.H), cell(-1, 1), cell(p.W+1, -1)}
	for _, n := range extremes {
		l = append(l, cell(n, 0), cell(0, n), cell(n, n), cell(n, -n))
	}
	return l
}

// badPlans are plans that are not valid. Some of them have unknown cells.
func badPlans() []api.Plan {
	l := []api.Plan{
		{}, planOf(1, 1), planOf(1, 1, 3), planOf(1, 1, 255), planOf(2, 2, 1, 1, 1), planOf(2, 2, 1, 1, 1, 1, 1), planOf(2, 2, 1, 1, 1, 3), planOf(2, 2, 0, 1, 1, 3), planOf(2, 2, 0, 1, 2),
		planOf(0, 5), planOf(5, 0), planOf(-1, -1, 1), planOf(-2, -2, 1, 1, 1, 1), planOf(65, 1, slices.Repeat([]byte{1}, 65)...), planOf(1, 65, slices.Repeat([]byte{1}, 65)...),
	}
	for _, n := range extremes {
		l = append(l, planOf(n, 1, 1), planOf(1, n, 1), planOf(n, n), planOf(n, n, 1))
	}
	return l
}

// unknownPlans are valid plans that are no buildings.
func unknownPlans() []api.Plan {
	l := []api.Plan{planOf(1, 1, 0), planOf(64, 64, make([]byte, 64*64)...)}
	for i := range 25 {
		p := planOf(5, 5, slices.Repeat([]byte{byte(1 + i%2)}, 25)...)
		p.Cells[i] = 0
		l = append(l, p)
	}
	return l
}

// tiny are all buildings of at most 9 cells.
func tiny() []api.Plan {
	var l []api.Plan
	for w := 1; w <= 9; w++ {
		for h := 1; w*h <= 9; h++ {
			for bits := range 1 << (w * h) {
				p := planOf(w, h)
				for i := range w * h {
					p.Cells = append(p.Cells, byte(1+bits>>i&1))
				}
				l = append(l, p)
			}
		}
	}
	return l
}

// buildings are buildings of several sizes.
func buildings() []api.Plan {
	s := source(1)
	l := []api.Plan{planOf(1, 1, 1), planOf(1, 1, 2), rows("..."), rows(".", "#", "."), rows("...", ".#.")}
	for _, n := range [][2]int{{4, 3}, {3, 4}, {5, 5}, {8, 8}, {1, 12}, {12, 1}, {9, 14}} {
		for percent := 20; percent <= 100; percent += 20 {
			l = append(l, s.building(n[0], n[1], percent))
		}
	}
	return l
}

// large are the buildings of the greatest sizes.
func large() []api.Plan {
	s := source(2)
	l := []api.Plan{snake(64, 64), snake(63, 64), snake(64, 1), s.building(64, 64, 100)}
	for percent := 10; percent <= 90; percent += 20 {
		l = append(l, s.building(64, 64, percent), s.building(64, 33, percent), s.building(2, 64, percent))
	}
	return l
}

// snake has one free way that runs to and fro through all of it.
func snake(w, h int) api.Plan {
	p := planOf(w, h)
	for y := range h {
		for x := range w {
			turn := w - 1
			if y%4 == 3 {
				turn = 0
			}
			if y%2 == 0 || x == turn {
				p.Cells = append(p.Cells, api.Free)
			} else {
				p.Cells = append(p.Cells, api.Wall)
			}
		}
	}
	return p
}

func wantPlan(t *testing.T, name string, got api.Plan, e api.Errno, want api.Plan) {
	t.Helper()
	if e != api.OK || !equal(got, want) {
		t.Errorf("%s: %v, %v, not %v", name, got, e, want)
	}
}

func wantNoPlan(t *testing.T, name string, got api.Plan, e, want api.Errno) {
	t.Helper()
	if e != want || !equal(got, api.Plan{}) {
		t.Errorf("%s: %v, %v, not %v", name, got, e, want)
	}
}

// source makes numbers that are the same in every run.
type source uint64

// next is a number from lo to hi.
func (s *source) next(lo, hi int) int {
	*s = *s*6364136223846793005 + 1442695040888963407
	return lo + int(uint64(*s)>>33)%(hi-lo+1)
}

// building is a building of w by h cells, of which about so many percent are free.
func (s *source) building(w, h, percent int) api.Plan {
	p := planOf(w, h)
	for range w * h {
		if s.next(1, 100) <= percent {
			p.Cells = append(p.Cells, api.Free)
		} else {
			p.Cells = append(p.Cells, api.Wall)
		}
	}
	return p
}

// point is a point of p or near it, often on the sides of cells.
func (s *source) point(p api.Plan) api.Point {
	at := point(s.next(-70, 64*p.W+70), s.next(-70, 64*p.H+70))
	if s.next(0, 3) == 0 {
		at.X = 64 * s.next(0, p.W)
	}
	if s.next(0, 3) == 0 {
		at.Y = 64 * s.next(0, p.H)
	}
	return at
}
