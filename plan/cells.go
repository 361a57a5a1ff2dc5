package plan

import (
	"wayfinder/api"
	"wayfinder/heading"
)

// The limits of this layer.
const (
	maxCell  = 1 << 14 // magnitude of the coordinates of a cell with a Square
	maxCells = 8192    // results of Cells
	maxFar   = 2048    // greatest distance of Traced and Swept
	maxWide  = 1024    // greatest side of the rectangle of Swept
)

// within reports whether the magnitude of n is at most the limit. It has no negation of n, which might wrap around.
func within(n, limit int) bool {
	return -limit <= n && n <= limit
}

// validPoint reports whether p is valid.
func validPoint(p Point) bool {
	return within(p.X, api.MaxCoord) && within(p.Y, api.MaxCoord)
}

// validRect reports whether r is valid.
func validRect(r Rect) bool {
	return validPoint(Point{X: r.X0, Y: r.Y0}) && validPoint(Point{X: r.X1, Y: r.Y1}) && r.X0 <= r.X1 && r.Y0 <= r.Y1
}

// pointRect returns the rectangle that is one point.
func pointRect(p Point) Rect {
	return Rect{X0: p.X, Y0: p.Y, X1: p.X, Y1: p.Y}
}

// floor returns floor(n / d) for d > 0.
func floor(n, d int) int {
	if n%d < 0 {
		return n/d - 1
	}
	return n / d
}

// run is consecutive rows or columns of cells.
type run struct {
	first, last int
}

// runOf returns the rows (or columns) of cells whose closed sides, which share their ends, have a point in common with the numbers from lo/d to hi/d, d > 0.
func runOf(lo, hi, d int) run {
	// The side before a common end has it as well: the first row is the last one that begins below lo/d.
	return run{-floor(-lo, api.Side*d) - 1, floor(hi, api.Side*d)}
}

// length returns the number of the rows of r.
func (r run) length() int {
	return r.last - r.first + 1
}

// appendRow appends the cells of a row to a list.
func appendRow(l []Cell, y int, columns run) []Cell {
	for x := columns.first; x <= columns.last; x++ {
		l = append(l, Cell{X: x, Y: y})
	}
	return l
}

// Square returns the closed square of c; false if a coordinate is too great.
func Square(c Cell) (Rect, bool) {
	if !within(c.X, maxCell) || !within(c.Y, maxCell) {
		return Rect{}, false
	}
	x, y := api.Side*c.X, api.Side*c.Y
	return Rect{X0: x, Y0: y, X1: x + api.Side, Y1: y + api.Side}, true
}

// Of returns the cell of p, to which its left and lower sides belong; false if p is not valid.
func Of(p Point) (Cell, bool) {
	if !validPoint(p) {
		return Cell{}, false
	}
	return Cell{X: floor(p.X, api.Side), Y: floor(p.Y, api.Side)}, true
}

// Around returns, by (Y, X), all cells whose closed square contains p; none if p is not valid.
func Around(p Point) []Cell {
	l, _ := Cells(pointRect(p))
	return l
}

// Cells returns, by (Y, X), all cells whose closed square has a point in common with r; ErrArg if r is not valid, ErrFull if there are too many.
func Cells(r Rect) ([]Cell, Errno) {
	if !validRect(r) {
		return nil, api.ErrArg
	}
	columns, rows := runOf(r.X0, r.X1, 1), runOf(r.Y0, r.Y1, 1)
	if columns.length()*rows.length() > maxCells {
		return nil, api.ErrFull
	}
	var l []Cell
	for y := rows.first; y <= rows.last; y++ {
		l = appendRow(l, y, columns)
	}
	return l, api.OK
}

// Traced returns, by (Y, X), all cells whose closed square the ray meets at some distance from lo to hi.
func Traced(p Point, v Vector, lo, hi int) ([]Cell, Errno) {
	return Swept(pointRect(p), v, lo, hi)
}

// Swept returns, by (Y, X), all cells whose closed square the ray from some point of r meets at some distance from lo to hi.
func Swept(r Rect, v Vector, lo, hi int) ([]Cell, Errno) {
	if !validRect(r) || !heading.Valid(v) {
		return nil, api.ErrArg
	}
	if lo < 0 || lo > hi || hi > maxFar {
		return nil, api.ErrRange
	}
	if r.X1-r.X0 > maxWide || r.Y1-r.Y0 > maxWide {
		return nil, api.ErrFull
	}
	// After the part t of v, the points of r are those from (X0 + t*X, Y0 + t*Y) to (X1 + t*X, Y1 + t*Y).
	whole := parts{Fraction{N: lo, D: v.D}, Fraction{N: hi, D: v.D}}
	rows := whole.covered(r.Y0, r.Y1, v.Y)
	var l []Cell
	for y := rows.first; y <= rows.last; y++ {
		l = appendRow(l, y, whole.inRow(y, r, v.Y).covered(r.X0, r.X1, v.X))
	}
	return l, api.OK
}

// parts are the numbers from one fraction to another, with denominators above 0.
type parts struct {
	from, to Fraction
}

// covered returns the rows (or columns) that have a point in common with the numbers from lo + t*step to hi + t*step, for some t of p.
func (p parts) covered(lo, hi, step int) run {
	a := runOf(lo*p.from.D+p.from.N*step, hi*p.from.D+p.from.N*step, p.from.D)
	b := runOf(lo*p.to.D+p.to.N*step, hi*p.to.D+p.to.N*step, p.to.D)
	return run{min(a.first, b.first), max(a.last, b.last)}
}

// inRow returns the parts t of p for which the numbers from Y0 + t*step to Y1 + t*step have one in common with the side of the row y. There is one.
func (p parts) inRow(y int, r Rect, step int) parts {
	up, down := api.Side*y-r.Y1, api.Side*(y+1)-r.Y0
	if step == 0 {
		return p
	}
	if step < 0 {
		up, down, step = -down, -up, -step
	}
	return parts{later(p.from, Fraction{N: up, D: step}), earlier(p.to, Fraction{N: down, D: step})}
}

// less reports whether a < b.
func less(a, b Fraction) bool {
	return a.N*b.D < b.N*a.D
}

// later returns the greater of two fractions.
func later(a, b Fraction) Fraction {
	if less(a, b) {
		return b
	}
	return a
}

// earlier returns the lesser of two fractions.
func earlier(a, b Fraction) Fraction {
	if less(b, a) {
		return b
	}
	return a
}
