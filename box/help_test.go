package box_test

import (
	"math"
	"testing"

	"wayfinder/api"
)

// most is the greatest magnitude of a coordinate.
const most = 1 << 20

func boxOf(x0, y0, x1, y1, from, count int) api.Box {
	return api.Box{X0: x0, Y0: y0, X1: x1, Y1: y1, From: from, Count: count}
}

func pose(x, y, h int) api.Pose {
	return api.Pose{X: x, Y: y, H: h}
}

func point(x, y int) api.Point {
	return api.Point{X: x, Y: y}
}

// largest is the box of all poses.
func largest() api.Box {
	return boxOf(-most, -most, most, most, 0, 256)
}

// extremes are integers whose sums and differences may wrap around.
var extremes = []int{math.MinInt, math.MinInt + 1, math.MinInt + most, -1 << 62, -1 << 32, 1 << 32, 1 << 62, math.MaxInt - most, math.MaxInt - 1, math.MaxInt}

// smallBoxes are valid boxes whose coordinates have a magnitude of at most 3, with arcs of all kinds.
func smallBoxes() []api.Box {
	return []api.Box{
		boxOf(0, 0, 0, 0, 0, 1), boxOf(0, 0, 0, 0, 0, 256), boxOf(-3, -3, 3, 3, 0, 256), boxOf(-3, -3, 3, 3, 255, 2), boxOf(1, -2, 1, 3, 7, 1),
		boxOf(-3, 2, 3, 2, 250, 10), boxOf(-1, -1, 2, 0, 200, 100), boxOf(0, 0, 3, 3, 0, 220), boxOf(2, 2, 3, 3, 128, 1), boxOf(-3, -3, -2, -2, 0, 1),
		boxOf(0, -1, 1, 1, 129, 255), boxOf(-2, -2, 2, 2, 1, 255), boxOf(1, 1, 1, 1, 255, 1), boxOf(-2, 0, 0, 2, 100, 128), boxOf(0, -2, 2, 0, 228, 128),
	}
}

// boxes are valid boxes, small ones and ones at the limits.
func boxes() []api.Box {
	return append(smallBoxes(),
		largest(), boxOf(most, most, most, most, 255, 1), boxOf(-most, -most, -most, -most, 255, 255), boxOf(-most, 5, most, 5, 31, 64), boxOf(9, -most, 9, most, 0, 256),
		boxOf(most-9, -most, most, -most+4, 250, 10), boxOf(-64, 1000, 63, 5000, 3, 200),
	)
}

// badBoxes are boxes that are not valid: of each kind, all other conditions hold.
func badBoxes() []api.Box {
	l := []api.Box{{}, boxOf(1, 0, 0, 0, 0, 1), boxOf(0, 1, 0, 0, 0, 1), boxOf(5, 0, 4, 9, 0, 256), boxOf(0, 5, 9, 4, 0, 256), boxOf(most, 0, -most, 0, 3, 3), boxOf(0, most, 0, -most, 3, 3)}
	for _, n := range []int{-1, 256, 257, 512} {
		l = append(l, boxOf(0, 0, 1, 1, n, 1))
	}
	for _, n := range []int{-256, -1, 0, 257, 512} {
		l = append(l, boxOf(0, 0, 1, 1, 0, n))
	}
	l = append(l, boxOf(0, 0, 1, 1, 1, 256), boxOf(0, 0, 1, 1, 255, 256), boxOf(0, 0, 1, 1, 128, 257))
	for _, n := range append([]int{most + 1, -most - 1}, extremes...) {
		l = append(l, boxOf(n, 0, n, 0, 0, 1), boxOf(0, n, 0, n, 0, 1))
		if n < 0 {
			l = append(l, boxOf(n, 0, 0, 0, 0, 1), boxOf(0, n, 0, 0, 0, 1))
		} else {
			l = append(l, boxOf(0, 0, n, 0, 0, 1), boxOf(0, 0, 0, n, 0, 1))
		}
	}
	for _, n := range extremes {
		l = append(l, boxOf(0, 0, 1, 1, n, 1), boxOf(0, 0, 1, 1, 0, n), boxOf(n, n, n, n, n, n))
	}
	return l
}

// contains tells whether b, which is valid, contains the pose: it goes through the marks of the arc.
func contains(b api.Box, x, y, h int) bool {
	if x < b.X0 || x > b.X1 || y < b.Y0 || y > b.Y1 {
		return false
	}
	for i := range b.Count {
		if (b.From+i)%256 == h {
			return true
		}
	}
	return false
}

// span is the greatest magnitude of the coordinates of a cloud.
const span = 4

// cloud is a set of poses with coordinates of the magnitude of a span at most.
type cloud [2*span + 1][2*span + 1][256]bool

// add puts the poses of b into c; those outside the span are left out.
func (c *cloud) add(b api.Box) {
	for y := max(b.Y0, -span); y <= min(b.Y1, span); y++ {
		for x := max(b.X0, -span); x <= min(b.X1, span); x++ {
			for i := range b.Count {
				c[y+span][x+span][(b.From+i)%256] = true
			}
		}
	}
}

// of is the set of the poses of the boxes.
func of(l ...api.Box) *cloud {
	c := new(cloud)
	for _, b := range l {
		c.add(b)
	}
	return c
}

// size is the number of the poses.
func (c *cloud) size() int {
	n := 0
	for y := range c {
		for x := range c[y] {
			for _, in := range c[y][x] {
				if in {
					n++
				}
			}
		}
	}
	return n
}

// every tells whether f holds for all poses, given whether each of them is in c and in d.
func every(c, d *cloud, f func(first, second bool) bool) bool {
	for y := range c {
		for x := range c[y] {
			for h := range c[y][x] {
				if !f(c[y][x][h], d[y][x][h]) {
					return false
				}
			}
		}
	}
	return true
}

// within tells whether all poses of c are in d.
func within(c, d *cloud) bool {
	return every(c, d, func(first, second bool) bool { return second || !first })
}

// wantError checks the results of a call that is to fail.
func wantError(t *testing.T, name string, got api.Box, e, want api.Errno) {
	t.Helper()
	if e != want || got != (api.Box{}) {
		t.Fatalf("%s is %v with the error %d, not %d", name, got, e, want)
	}
}

// source makes numbers that are the same in every run.
type source uint64

// next is a number from lo to hi.
func (s *source) next(lo, hi int) int {
	*s = *s*6364136223846793005 + 1442695040888963407
	return lo + int(uint64(*s)>>33)%(hi-lo+1)
}

// box is a valid box with coordinates of this magnitude and so many headings at most.
func (s *source) box(size, count int) api.Box {
	x, y, u, v := s.next(-size, size), s.next(-size, size), s.next(-size, size), s.next(-size, size)
	b := boxOf(min(x, u), min(y, v), max(x, u), max(y, v), s.next(0, 255), s.next(1, count))
	if b.Count == 256 {
		b.From = 0
	}
	return b
}

// list is so many boxes.
func (s *source) list(n, size, count int) []api.Box {
	l := make([]api.Box, n)
	for i := range l {
		l[i] = s.box(size, count)
	}
	return l
}
