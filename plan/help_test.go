package plan_test

import (
	"cmp"
	"math"
	"slices"
	"testing"

	"wayfinder/api"
)

// The limits of the chapter.
const (
	mostCoord = 1 << 20
	mostCell  = 1 << 14
	mostCells = 8192
	mostFar   = 2048
	mostWide  = 1024
)

func point(x, y int) api.Point {
	return api.Point{X: x, Y: y}
}

func cell(x, y int) api.Cell {
	return api.Cell{X: x, Y: y}
}

func rect(x0, y0, x1, y1 int) api.Rect {
	return api.Rect{X0: x0, Y0: y0, X1: x1, Y1: y1}
}

// spot is the rectangle that is one point.
func spot(p api.Point) api.Rect {
	return rect(p.X, p.Y, p.X, p.Y)
}

func vector(x, y, d int) api.Vector {
	return api.Vector{X: x, Y: y, D: d}
}

func planOf(w, h int, cells ...byte) api.Plan {
	return api.Plan{W: w, H: h, Cells: cells}
}

// equal tells whether a and b have the same fields.
func equal(a, b api.Plan) bool {
	return a.W == b.W && a.H == b.H && slices.Equal(a.Cells, b.Cells)
}

// clone is a copy of p that shares no memory with it.
func clone(p api.Plan) api.Plan {
	return planOf(p.W, p.H, slices.Clone(p.Cells)...)
}

// extremes are integers whose sums, differences, products and negations may wrap around.
var extremes = []int{math.MinInt, math.MinInt + 1, -1 << 62, -1 << 58, -1 << 32, 1 << 32, 1 << 58, 1 << 62, math.MaxInt - 1, math.MaxInt}

// beyond are integers with a magnitude above the limit.
func beyond(limit int) []int {
	return append([]int{-limit - 1, limit + 1}, extremes...)
}

// badPoints are points that are not valid.
func badPoints() []api.Point {
	var l []api.Point
	for _, n := range beyond(mostCoord) {
		l = append(l, point(n, 0), point(0, n), point(n, n))
	}
	return l
}

// badRects are rectangles that are not valid.
func badRects() []api.Rect {
	l := []api.Rect{rect(1, 0, 0, 0), rect(0, 1, 0, 0), rect(5, 5, 4, 9), rect(5, 5, 9, 4), rect(mostCoord, 0, -mostCoord, 0)}
	for _, n := range beyond(mostCoord) {
		l = append(l, rect(n, 0, 0, 0), rect(0, n, 0, 0), rect(0, 0, n, 0), rect(0, 0, 0, n), rect(n, n, n, n))
	}
	return l
}

// badVectors are vectors that are not valid.
func badVectors() []api.Vector {
	l := []api.Vector{{}, vector(1, 0, 0), vector(-1, 0, -1), vector(3, 4, -5), vector(3, 4, 6), vector(1, 1, 1), vector(0, 0, 1), vector(1<<26+1, 0, 1<<26+1), vector(1<<32, 5, 5)}
	for _, n := range extremes {
		l = append(l, vector(n, 0, n), vector(0, n, 1), vector(1, 0, n))
	}
	return l
}

// badPlans are plans that are not valid.
func badPlans() []api.Plan {
	l := []api.Plan{
		{}, planOf(1, 1), planOf(1, 1, 3), planOf(1, 1, 255), planOf(2, 2, 0, 1, 2), planOf(2, 2, 0, 1, 2, 0, 1), planOf(2, 2, 0, 1, 2, 3),
		planOf(0, 5), planOf(5, 0), planOf(-1, -1, 1), planOf(-2, -2, 1, 1, 1, 1), planOf(65, 1, make([]byte, 65)...), planOf(1, 65, make([]byte, 65)...),
	}
	for _, n := range extremes {
		l = append(l, planOf(n, 1, 1), planOf(1, n, 1), planOf(n, n), planOf(n, n, 1))
	}
	return l
}

// vectors are directions along the axes and between them, in lowest terms and not, with small and with great lengths.
func vectors() []api.Vector {
	l := []api.Vector{vector(1, 0, 1), vector(0, 7, 7), vector(-2, 0, 2), vector(0, -1, 1), vector(1<<26, 0, 1<<26), vector(0, -1<<26, 1<<26)}
	for _, v := range []api.Vector{vector(3, 4, 5), vector(63, 16, 65), vector(48, 64, 80), vector(54758411, 38795820, 67108861), vector(67092480, 16382, 67092482), vector(8193, 33562624, 33562625)} {
		for _, x := range []int{v.X, -v.X} {
			for _, y := range []int{v.Y, -v.Y} {
				l = append(l, vector(x, y, v.D), vector(y, x, v.D))
			}
		}
	}
	return l
}

// byYX is the order of lists of cells.
func byYX(a, b api.Cell) int {
	return cmp.Or(cmp.Compare(a.Y, b.Y), cmp.Compare(a.X, b.X))
}

// subset tells whether all cells of a are in b, which is by (Y, X).
func subset(a, b []api.Cell) bool {
	for _, c := range a {
		if _, ok := slices.BinarySearchFunc(b, c, byYX); !ok {
			return false
		}
	}
	return true
}

// inSquare tells whether p is in the closed square of c.
func inSquare(p api.Point, c api.Cell) bool {
	return 64*c.X <= p.X && p.X <= 64*c.X+64 && 64*c.Y <= p.Y && p.Y <= 64*c.Y+64
}

func wantCells(t *testing.T, name string, got []api.Cell, e api.Errno, want []api.Cell) {
	t.Helper()
	if e != api.OK || !slices.Equal(got, want) {
		t.Errorf("%s: %v, %v, not %v", name, got, e, want)
	}
}

func wantNoCells(t *testing.T, name string, got []api.Cell, e, want api.Errno) {
	t.Helper()
	if e != want || len(got) != 0 {
		t.Errorf("%s: %v, %v, not %v", name, got, e, want)
	}
}

func wantPlan(t *testing.T, name string, got api.Plan, e api.Errno, want api.Plan) {
	t.Helper()
	if e != api.OK || !equal(got, want) {
		t.Errorf("%s: %v, %v, not %v", name, got, e, want)
	}
}

func wantNoPlan(t *testing.T, name string, got api.Plan, e, want api.Errno) {
	t.Helper()
	if e != want || !equal(got, api.Plan{}) {
		t.Errorf("%s: %v, %v, not %v", name, got, e, want)
	}
}

// source makes numbers that are the same in every run.
type source uint64

// next is a number from lo to hi.
func (s *source) next(lo, hi int) int {
	*s = *s*6364136223846793005 + 1442695040888963407
	return lo + int(uint64(*s)>>33)%(hi-lo+1)
}

// point is a point with coordinates of this magnitude at most.
func (s *source) point(size int) api.Point {
	return point(s.next(-size, size), s.next(-size, size))
}

// plan is a plan of w by h cells.
func (s *source) plan(w, h int) api.Plan {
	p := planOf(w, h, make([]byte, w*h)...)
	for i := range p.Cells {
		p.Cells[i] = byte(s.next(0, 2))
	}
	return p
}

// vector is one of the vectors.
func (s *source) vector() api.Vector {
	l := vectors()
	return l[s.next(0, len(l)-1)]
}
