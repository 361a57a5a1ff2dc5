package box_test

import (
	"math"
	"slices"
	"testing"

	"wayfinder/api"
	"wayfinder/box"
)

// P6.1 and P6.4

// fewer reduces the list by the definition.
func fewer(l []api.Box, most int) []api.Box {
	l = slices.Clone(l)
	for len(l) > most {
		first, second, least := 0, 0, math.MaxInt
		var hull api.Box
		for i := range l {
			for j := i + 1; j < len(l); j++ {
				h, _ := box.Hull(l[i], l[j])
				if c := box.Volume(h) - box.Volume(l[i]) - box.Volume(l[j]); c < least {
					first, second, least, hull = i, j, c, h
				}
			}
		}
		l[first] = hull
		l = append(l[:second], l[second+1:]...)
	}
	return l
}

func TestCompact(t *testing.T) {
	a, b, c, d := boxOf(0, 0, 1, 0, 9, 1), boxOf(10, 0, 11, 0, 9, 1), boxOf(20, 0, 21, 0, 9, 1), boxOf(100, 0, 100, 0, 9, 1)
	for i, c := range []struct {
		l    []api.Box
		most int
		want []api.Box
	}{
		// Enough room.
		{nil, 1, nil}, {[]api.Box{a}, 1, []api.Box{a}}, {[]api.Box{b, a, b}, 3, []api.Box{b, a, b}}, {[]api.Box{c, b, a}, 64, []api.Box{c, b, a}},
		// The hull takes the first place, and the box at the second one goes.
		{[]api.Box{d, a, c, b}, 3, []api.Box{d, boxOf(0, 0, 11, 0, 9, 1), c}},
		{[]api.Box{b, d, a}, 2, []api.Box{boxOf(0, 0, 11, 0, 9, 1), d}},
		// Of equal costs the least i, then the least j.
		{[]api.Box{a, b, c}, 2, []api.Box{boxOf(0, 0, 11, 0, 9, 1), c}}, {[]api.Box{b, c, a}, 2, []api.Box{boxOf(10, 0, 21, 0, 9, 1), a}}, {[]api.Box{c, a, b}, 2, []api.Box{boxOf(10, 0, 21, 0, 9, 1), a}},
		{[]api.Box{d, a, b, c}, 3, []api.Box{d, boxOf(0, 0, 11, 0, 9, 1), c}}, {[]api.Box{a, c, b}, 2, []api.Box{boxOf(0, 0, 11, 0, 9, 1), c}},
		// The costs of the pairs with a hull are those of the hull.
		{[]api.Box{a, b, c, d}, 2, []api.Box{boxOf(0, 0, 21, 0, 9, 1), d}}, {[]api.Box{a, d, c, b}, 1, []api.Box{boxOf(0, 0, 100, 0, 9, 1)}},
		// Boxes with common poses: those with the most common ones are joined first.
		{[]api.Box{a, boxOf(0, 0, 5, 5, 0, 9), boxOf(0, 0, 9, 9, 0, 9), a}, 3, []api.Box{a, boxOf(0, 0, 9, 9, 0, 9), a}},
		{[]api.Box{a, b, a}, 2, []api.Box{a, b}},
		// Headings count like coordinates.
		{[]api.Box{boxOf(0, 0, 0, 0, 0, 1), boxOf(0, 0, 0, 0, 9, 1), boxOf(7, 0, 7, 0, 0, 1)}, 2, []api.Box{boxOf(0, 0, 7, 0, 0, 1), boxOf(0, 0, 0, 0, 9, 1)}},
		{[]api.Box{boxOf(0, 0, 0, 0, 0, 1), boxOf(0, 0, 0, 0, 250, 1), boxOf(7, 0, 7, 0, 0, 1)}, 2, []api.Box{boxOf(0, 0, 0, 0, 250, 7), boxOf(7, 0, 7, 0, 0, 1)}},
		{[]api.Box{largest(), d, largest()}, 1, []api.Box{largest()}},
	} {
		if got, e := box.Compact(c.l, c.most); e != api.OK || !slices.Equal(got, c.want) {
			t.Errorf("Compact %d is %v with the error %d", i, got, e)
		}
	}
}

func TestCompactByTheDefinition(t *testing.T) {
	s := source(6)
	for i := range 300 {
		n, size, count := s.next(1, 40), []int{1, 3, 60, 5000, most}[i%5], []int{1, 3, 40, 256}[i%4]
		l := s.list(n, size, count)
		k := s.next(1, n)
		got, e := box.Compact(l, k)
		if want := fewer(l, k); e != api.OK || !slices.Equal(got, want) {
			t.Fatalf("Compact(%v, %d) is %v with the error %d, not %v", l, k, got, e, want)
		}
	}
}

func TestCompactOfManyBoxes(t *testing.T) {
	s := source(7)
	for i, l := range [][]api.Box{s.list(256, 1000, 20), s.list(256, 20, 4), s.list(256, most, 256)} {
		for _, k := range []int{1, 16, 64} {
			got, e := box.Compact(l, k)
			if e != api.OK || len(got) != k {
				t.Fatalf("Compact %d to %d has %d boxes with the error %d", i, k, len(got), e)
			}
			for _, b := range l {
				if !slices.ContainsFunc(got, func(h api.Box) bool { return box.Inside(b, h) }) {
					t.Fatalf("Compact %d to %d loses %v", i, k, b)
				}
			}
			if i == 0 && !slices.Equal(got, fewer(l, k)) {
				t.Errorf("Compact to %d is %v", k, got)
			}
		}
	}
	// No two boxes are alike, and all pairs have the same cost at the beginning.
	var row []api.Box
	for x := range 256 {
		row = append(row, boxOf(2*x, 0, 2*x, 0, 0, 1))
	}
	if got, e := box.Compact(row, 64); e != api.OK || !slices.Equal(got, fewer(row, 64)) {
		t.Errorf("Compact of a row is %v with the error %d", got, e)
	}
}

func TestCompactLosesNoPose(t *testing.T) {
	s := source(8)
	for range 200 {
		l := s.list(s.next(1, 12), 3, 30)
		got, e := box.Compact(l, s.next(1, 6))
		if e != api.OK || !within(of(l...), of(got...)) {
			t.Fatalf("Compact(%v) is %v with the error %d", l, got, e)
		}
	}
}

func TestCompactErrors(t *testing.T) {
	good, many := boxOf(0, 0, 1, 1, 0, 1), source(9)
	list := many.list(257, 9, 9)
	for i, c := range []struct {
		l    []api.Box
		most int
		want api.Errno
	}{
		{nil, 0, api.ErrRange}, {nil, 65, api.ErrRange}, {nil, -1, api.ErrRange}, {nil, math.MinInt, api.ErrRange}, {nil, math.MaxInt, api.ErrRange}, {nil, 64, api.OK}, {[]api.Box{}, 1, api.OK},
		{[]api.Box{good}, 0, api.ErrRange}, {[]api.Box{good}, 65, api.ErrRange},
		{list, 64, api.ErrRange}, {list, 1, api.ErrRange}, {list[:256], 64, api.OK}, {make([]api.Box, 100000), 64, api.ErrRange},
		// The numbers are looked at before the boxes.
		{[]api.Box{{}}, 0, api.ErrRange}, {make([]api.Box, 257), 1, api.ErrRange}, {make([]api.Box, 256), 1, api.ErrArg},
		{[]api.Box{{}}, 1, api.ErrArg}, {[]api.Box{good, {}}, 64, api.ErrArg}, {[]api.Box{{}, good, good}, 1, api.ErrArg},
	} {
		got, e := box.Compact(c.l, c.most)
		if e != c.want || e != api.OK && len(got) != 0 {
			t.Errorf("Compact %d is %v with the error %d, not %d", i, got, e, c.want)
		}
	}
	for _, b := range badBoxes() {
		for _, l := range [][]api.Box{{b}, {good, good, b}, {good, b, good}} {
			for _, k := range []int{1, 2, 64} {
				if got, e := box.Compact(l, k); e != api.ErrArg || len(got) != 0 {
					t.Errorf("Compact(%v, %d) is %v with the error %d", l, k, got, e)
				}
			}
		}
	}
}

func TestCompactSharesNothing(t *testing.T) {
	s := source(10)
	l := s.list(20, 50, 20)
	before := slices.Clone(l)
	for _, k := range []int{1, 5, 19, 20, 30} {
		got, _ := box.Compact(l, k)
		clear(got[:cap(got)])
		if !slices.Equal(l, before) {
			t.Fatalf("Compact to %d has changed its argument", k)
		}
		if got, e := box.Compact(l, k); e != api.OK || !slices.Equal(got, fewer(l, k)) {
			t.Fatalf("Compact to %d is %v with the error %d the second time", k, got, e)
		}
	}
}
