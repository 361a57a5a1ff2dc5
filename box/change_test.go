package box_test

import (
	"math"
	"testing"

	"wayfinder/api"
	"wayfinder/box"
)

// P6.1 and P6.2

func TestSplit(t *testing.T) {
	for _, c := range []struct{ b, first, second api.Box }{
		{boxOf(0, 0, 9, 4, 250, 10), boxOf(0, 0, 9, 4, 250, 5), boxOf(0, 0, 9, 4, 255, 5)},
		// An odd number of values: the first part is the smaller one.
		{boxOf(-3, 0, 3, 4, 9, 1), boxOf(-3, 0, -1, 4, 9, 1), boxOf(0, 0, 3, 4, 9, 1)},
		{boxOf(0, -7, 4, -1, 9, 1), boxOf(0, -7, 4, -5, 9, 1), boxOf(0, -4, 4, -1, 9, 1)},
		{boxOf(0, 0, 9, 4, 254, 7), boxOf(0, 0, 9, 4, 254, 3), boxOf(0, 0, 9, 4, 1, 4)},
		{boxOf(0, 0, 0, 0, 254, 2), boxOf(0, 0, 0, 0, 254, 1), boxOf(0, 0, 0, 0, 255, 1)},
		{boxOf(0, 0, 0, 0, 255, 2), boxOf(0, 0, 0, 0, 255, 1), boxOf(0, 0, 0, 0, 0, 1)},
		{boxOf(0, 0, 0, 0, 0, 256), boxOf(0, 0, 0, 0, 0, 128), boxOf(0, 0, 0, 0, 128, 128)},
		{boxOf(0, 0, 0, 0, 200, 255), boxOf(0, 0, 0, 0, 200, 127), boxOf(0, 0, 0, 0, 71, 128)},
		// Of equal sizes the first.
		{boxOf(0, 0, 15, 15, 0, 2), boxOf(0, 0, 7, 15, 0, 2), boxOf(8, 0, 15, 15, 0, 2)},
		{boxOf(0, 0, 14, 15, 0, 2), boxOf(0, 0, 14, 7, 0, 2), boxOf(0, 8, 14, 15, 0, 2)},
		{boxOf(0, 0, 14, 14, 0, 2), boxOf(0, 0, 14, 14, 0, 1), boxOf(0, 0, 14, 14, 1, 1)},
		{boxOf(0, 0, 14, 14, 0, 1), boxOf(0, 0, 6, 14, 0, 1), boxOf(7, 0, 14, 14, 0, 1)},
		{boxOf(0, 0, 15, 9, 0, 2), boxOf(0, 0, 7, 9, 0, 2), boxOf(8, 0, 15, 9, 0, 2)},
		// A dimension with only one value doesn't count, though the size of one heading is 8.
		{boxOf(0, 0, 1, 0, 7, 1), boxOf(0, 0, 0, 0, 7, 1), boxOf(1, 0, 1, 0, 7, 1)},
		{boxOf(5, 0, 5, 1, 7, 1), boxOf(5, 0, 5, 0, 7, 1), boxOf(5, 1, 5, 1, 7, 1)},
		{boxOf(0, 0, 1, 1, 7, 1), boxOf(0, 0, 0, 1, 7, 1), boxOf(1, 0, 1, 1, 7, 1)},
		{largest(), boxOf(-most, -most, -1, most, 0, 256), boxOf(0, -most, most, most, 0, 256)},
		{boxOf(most-1, most, most, most, 255, 1), boxOf(most-1, most, most-1, most, 255, 1), boxOf(most, most, most, most, 255, 1)},
	} {
		if first, second, ok := box.Split(c.b); !ok || first != c.first || second != c.second {
			t.Errorf("Split(%v) is %v, %v and %t", c.b, first, second, ok)
		}
	}
}

// halves checks the results of Split by the definition: one dimension is divided, and no other one is greater or is equal and comes first.
func halves(b, first, second api.Box) bool {
	values := []int{b.X1 - b.X0 + 1, b.Y1 - b.Y0 + 1, b.Count}
	n := []int{first.X1 - first.X0 + 1, first.Y1 - first.Y0 + 1, first.Count}
	m := []int{second.X1 - second.X0 + 1, second.Y1 - second.Y0 + 1, second.Count}
	best, greatest := -1, 0
	for i, v := range values {
		size := v
		if i == 2 {
			size = 8 * v
		}
		if v > 1 && size > greatest {
			best, greatest = i, size
		}
	}
	for i, v := range values {
		if i == best && (n[i] != v/2 || m[i] != v-v/2) {
			return false
		}
		if i != best && (n[i] != v || m[i] != v) {
			return false
		}
	}
	// The first part begins where the box does, the second one ends where it does.
	begins := first.X0 == b.X0 && first.Y0 == b.Y0 && first.From == b.From
	return begins && second.X1 == b.X1 && second.Y1 == b.Y1 && (second.From+second.Count-b.From-b.Count)%256 == 0
}

func TestSplitByTheDefinition(t *testing.T) {
	s := source(4)
	l := boxes()
	for range 3000 {
		l = append(l, s.box(most, 256), s.box(1000, 256), s.box(30, 10), s.box(5, 3), s.box(1, 2))
	}
	for _, b := range l {
		first, second, ok := box.Split(b)
		if one := b.X0 == b.X1 && b.Y0 == b.Y1 && b.Count == 1; ok == one {
			t.Fatalf("Split(%v) has the result %t", b, ok)
		}
		if ok && (!box.Valid(first) || !box.Valid(second) || !halves(b, first, second)) {
			t.Fatalf("Split(%v) is %v and %v", b, first, second)
		}
	}
}

func TestSplitKeepsThePoses(t *testing.T) {
	for _, whole := range smallBoxes() {
		// Until one pose is left, at both ends.
		for _, side := range []int{0, 1} {
			b := whole
			first, second, ok := box.Split(b)
			for ok {
				if !every(of(first), of(second), func(p, q bool) bool { return !p || !q }) {
					t.Fatalf("the parts of %v have a pose in common", b)
				}
				both := of(first, second)
				if !within(both, of(b)) || !within(of(b), both) {
					t.Fatalf("the parts of %v have other poses", b)
				}
				b = []api.Box{first, second}[side]
				first, second, ok = box.Split(b)
			}
			if first != (api.Box{}) || second != (api.Box{}) || box.Volume(b) != 1 {
				t.Errorf("Split(%v) is %v, %v and false", b, first, second)
			}
		}
	}
}

func TestSplitOfNoBox(t *testing.T) {
	for _, b := range badBoxes() {
		if first, second, ok := box.Split(b); ok || first != (api.Box{}) || second != (api.Box{}) {
			t.Errorf("Split(%v) is %v, %v and %t", b, first, second, ok)
		}
	}
}

func TestMove(t *testing.T) {
	for _, c := range []struct {
		b                  api.Box
		dx0, dx1, dy0, dy1 int
		want               api.Box
	}{
		{boxOf(0, 0, 9, 4, 250, 10), 0, 0, 0, 0, boxOf(0, 0, 9, 4, 250, 10)},
		{boxOf(0, 0, 9, 4, 250, 10), -1, 2, -3, 4, boxOf(-1, -3, 11, 8, 250, 10)},
		{boxOf(0, 0, 9, 4, 250, 10), 7, 7, -8, -8, boxOf(7, -8, 16, -4, 250, 10)},
		{boxOf(0, 0, 0, 0, 0, 256), -most, most, -most, most, largest()},
		{boxOf(-most, -most, -most, -most, 9, 9), 2 * most, 2 * most, 0, 2 * most, boxOf(most, -most, most, most, 9, 9)},
		{boxOf(most, most, most, most, 9, 9), -2 * most, 0, -2 * most, -2 * most, boxOf(-most, -most, most, -most, 9, 9)},
	} {
		if got, e := box.Move(c.b, c.dx0, c.dx1, c.dy0, c.dy1); e != api.OK || got != c.want {
			t.Errorf("Move(%v, %d, %d, %d, %d) is %v with the error %d", c.b, c.dx0, c.dx1, c.dy0, c.dy1, got, e)
		}
	}
}

func TestMoveMovesThePoses(t *testing.T) {
	s := source(5)
	for range 400 {
		b := s.box(2, 20)
		dx0, dy0 := s.next(-2, 1), s.next(-2, 1)
		dx1, dy1 := s.next(dx0, 2), s.next(dy0, 2)
		want := new(cloud)
		for dy := dy0; dy <= dy1; dy++ {
			for dx := dx0; dx <= dx1; dx++ {
				want.add(boxOf(b.X0+dx, b.Y0+dy, b.X1+dx, b.Y1+dy, b.From, b.Count))
			}
		}
		got, e := box.Move(b, dx0, dx1, dy0, dy1)
		if e != api.OK || *of(got) != *want {
			t.Fatalf("Move(%v, %d, %d, %d, %d) is %v with the error %d", b, dx0, dx1, dy0, dy1, got, e)
		}
	}
}

func TestMoveErrors(t *testing.T) {
	b := boxOf(-9, -8, 7, 6, 3, 4)
	for i, c := range []struct {
		dx0, dx1, dy0, dy1 int
		want               api.Errno
	}{
		{1, 0, 0, 0, api.ErrArg}, {0, 0, 1, 0, api.ErrArg}, {0, -1, 0, 0, api.ErrArg}, {0, 0, 5, 4, api.ErrArg}, {math.MaxInt, math.MinInt, 0, 0, api.ErrArg}, {0, 0, math.MaxInt, math.MinInt, api.ErrArg},
		// A wrong order is noticed first.
		{1 << 40, 1<<40 - 1, 0, 0, api.ErrArg}, {math.MinInt, math.MaxInt, 1, 0, api.ErrArg},
		{-most + 9, most - 7, -most + 8, most - 6, api.OK},
		{-most + 8, most - 7, -most + 8, most - 6, api.ErrRange}, {-most + 9, most - 6, -most + 8, most - 6, api.ErrRange},
		{-most + 9, most - 7, -most + 7, most - 6, api.ErrRange}, {-most + 9, most - 7, -most + 8, most - 5, api.ErrRange},
		// Beyond the limit on the other side.
		{most + 10, most + 10, 0, 0, api.ErrRange}, {-most - 8, -most - 8, 0, 0, api.ErrRange}, {0, 0, most + 9, most + 9, api.ErrRange}, {0, 0, -most - 7, -most - 7, api.ErrRange},
	} {
		got, e := box.Move(b, c.dx0, c.dx1, c.dy0, c.dy1)
		if e != c.want || e != api.OK && got != (api.Box{}) {
			t.Errorf("Move %d is %v with the error %d, not %d", i, got, e, c.want)
		}
	}
	for _, b := range boxes() {
		for _, n := range extremes {
			got, e := box.Move(b, n, n, 0, 0)
			wantError(t, "Move", got, e, api.ErrRange)
			got, e = box.Move(b, 0, 0, n, n)
			wantError(t, "Move", got, e, api.ErrRange)
			got, e = box.Move(b, min(n, 0), max(n, 0), 0, 0)
			wantError(t, "Move", got, e, api.ErrRange)
			got, e = box.Move(b, 0, 0, min(n, 0), max(n, 0))
			wantError(t, "Move", got, e, api.ErrRange)
		}
	}
}

func TestMoveOfNoBox(t *testing.T) {
	for _, b := range badBoxes() {
		for _, d := range append([]int{0, 1, 1 << 21}, extremes...) {
			got, e := box.Move(b, d, d, d, d)
			wantError(t, "Move", got, e, api.ErrArg)
		}
	}
}
