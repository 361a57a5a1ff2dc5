package heading_test

import (
	"slices"
	"testing"

	"wayfinder/api"
	"wayfinder/heading"
)

// P4.1 and P4.5

func TestValidArc(t *testing.T) {
	for from := -3; from <= 260; from++ {
		for count := -3; count <= 260; count++ {
			if a := arc(from, count); heading.ValidArc(a) != isArc(a) {
				t.Errorf("ValidArc(%v) is %t", a, heading.ValidArc(a))
			}
		}
	}
	for _, a := range noArcs() {
		if heading.ValidArc(a) {
			t.Errorf("%v is not valid", a)
		}
	}
}

func TestHas(t *testing.T) {
	for _, a := range allArcs() {
		s := marksOf(a)
		for h := range 256 {
			if heading.Has(a, h) != s[h] {
				t.Fatalf("Has(%v, %d) is %t", a, h, !s[h])
			}
		}
	}
	for _, a := range arcs() {
		s := marksOf(a)
		for _, n := range far {
			for h := range 256 {
				if heading.Has(a, h+256*n) != s[h] {
					t.Fatalf("Has(%v, %d) is %t", a, h+256*n, !s[h])
				}
			}
		}
		for _, h := range extremes {
			if heading.Has(a, h) != s.has(h) {
				t.Fatalf("Has(%v, %d) is %t", a, h, !s.has(h))
			}
		}
	}
	if !heading.Has(arc(254, 3), 256) || heading.Has(arc(254, 3), 1) || !heading.Has(arc(0, 256), -1) {
		t.Error("Has of an arc over the mark 0")
	}
	for _, a := range noArcs() {
		for h := -300; h <= 300; h++ {
			if heading.Has(a, h) {
				t.Fatalf("Has(%v, %d) is true", a, h)
			}
		}
	}
}

func TestList(t *testing.T) {
	for _, a := range allArcs() {
		got := heading.List(a)
		if len(got) != a.Count {
			t.Fatalf("List(%v) has %d marks", a, len(got))
		}
		for i, m := range got {
			if m != (a.From+i)%256 {
				t.Fatalf("List(%v) has the mark %d at the index %d", a, m, i)
			}
		}
	}
	if got := heading.List(arc(254, 3)); !slices.Equal(got, []int{254, 255, 0}) {
		t.Errorf("List is %v", got)
	}
	for _, a := range noArcs() {
		if got := heading.List(a); len(got) != 0 {
			t.Errorf("List(%v) is %v", a, got)
		}
	}
}

func TestShift(t *testing.T) {
	for _, a := range arcs() {
		s := marksOf(a)
		for _, n := range append([]int{0, 1, -1, 5, 64, -100, 128, -128, 255, 256, -256, 257, 1000, 1<<40 + 3}, extremes...) {
			got, e := heading.Shift(a, n)
			wantArc(t, "Shift", got, e, func(h int) bool { return s.has(h - n%256) })
		}
	}
	for c, want := range map[[3]int]api.Arc{
		{254, 3, 5}: arc(3, 3), {3, 3, -5}: arc(254, 3), {0, 256, 7}: arc(0, 256), {9, 255, 1}: arc(10, 255), {255, 1, 1}: arc(0, 1), {0, 1, -1}: arc(255, 1),
	} {
		if got, e := heading.Shift(arc(c[0], c[1]), c[2]); e != api.OK || got != want {
			t.Errorf("Shift of %v is %v with the error %d", c, got, e)
		}
	}
	for _, a := range noArcs() {
		for _, n := range []int{0, 5, -1, 256} {
			got, e := heading.Shift(a, n)
			wantArcError(t, "Shift", got, e, api.ErrArg)
		}
	}
}

// distances calculates how many marks each mark is away from the nearest one of a set.
func distances(s *marks) [256]int {
	var l [256]int
	for h := range l {
		for !s.has(h+l[h]) && !s.has(h-l[h]) {
			l[h]++
		}
	}
	return l
}

func TestGrow(t *testing.T) {
	for _, a := range arcs() {
		away := distances(marksOf(a))
		for n := range 257 {
			got, e := heading.Grow(a, n)
			wantArc(t, "Grow", got, e, func(h int) bool { return away[h] <= n })
		}
		for _, n := range append([]int{-1, -2, -256, 257, 258, 512, 1 << 32}, extremes...) {
			got, e := heading.Grow(a, n)
			wantArcError(t, "Grow", got, e, api.ErrRange)
		}
	}
	for c, want := range map[[3]int]api.Arc{
		{2, 3, 4}: arc(254, 11), {2, 3, 0}: arc(2, 3), {0, 256, 0}: arc(0, 256), {0, 256, 256}: arc(0, 256),
		{9, 254, 1}: arc(0, 256), {9, 253, 1}: arc(8, 255), {9, 255, 0}: arc(9, 255), {9, 255, 1}: arc(0, 256), {7, 2, 127}: arc(0, 256), {7, 1, 127}: arc(136, 255),
	} {
		if got, e := heading.Grow(arc(c[0], c[1]), c[2]); e != api.OK || got != want {
			t.Errorf("Grow of %v is %v with the error %d", c, got, e)
		}
	}
	for _, a := range noArcs() {
		// The arc is looked at first.
		for _, n := range []int{0, 1, 256, -1, 257} {
			got, e := heading.Grow(a, n)
			wantArcError(t, "Grow", got, e, api.ErrArg)
		}
	}
}

// leastArc calculates the hull of two arcs: for each mark, the least arc that begins there ends before the marks in front of it that are in neither.
func leastArc(a, b api.Arc) api.Arc {
	s, r := marksOf(a), marksOf(b)
	best := arc(0, 256)
	for from := range 256 {
		count := 256
		for m := from - 1; !s.has(m) && !r.has(m); m-- {
			count--
		}
		if count < best.Count {
			best = arc(from, count)
		}
	}
	return best
}

func TestHull(t *testing.T) {
	for _, a := range arcs() {
		for _, b := range arcs() {
			got, e := heading.Hull(a, b)
			if want := leastArc(a, b); e != api.OK || got != want {
				t.Fatalf("Hull(%v, %v) is %v with the error %d, not %v", a, b, got, e, want)
			}
		}
	}
	for _, c := range []struct{ a, b, want api.Arc }{
		{arc(250, 2), arc(4, 1), arc(250, 11)}, {arc(4, 1), arc(250, 2), arc(250, 11)},
		// Both ways round are equally long.
		{arc(0, 1), arc(128, 1), arc(0, 129)}, {arc(128, 1), arc(0, 1), arc(0, 129)}, {arc(200, 1), arc(72, 1), arc(72, 129)}, {arc(210, 5), arc(82, 5), arc(82, 133)},
		// One contains the other one, or both together are everything.
		{arc(250, 20), arc(255, 3), arc(250, 20)}, {arc(10, 200), arc(150, 200), arc(0, 256)}, {arc(10, 128), arc(138, 128), arc(0, 256)}, {arc(10, 128), arc(138, 127), arc(10, 255)},
		{arc(0, 256), arc(7, 9), arc(0, 256)}, {arc(7, 9), arc(0, 256), arc(0, 256)}, {arc(7, 9), arc(7, 9), arc(7, 9)}, {arc(30, 255), arc(30, 255), arc(30, 255)},
	} {
		if got, e := heading.Hull(c.a, c.b); e != api.OK || got != c.want {
			t.Errorf("Hull(%v, %v) is %v with the error %d", c.a, c.b, got, e)
		}
	}
	for _, a := range noArcs() {
		for _, b := range []api.Arc{arc(3, 4), arc(0, 256), a} {
			got, e := heading.Hull(a, b)
			wantArcError(t, "Hull", got, e, api.ErrArg)
			got, e = heading.Hull(b, a)
			wantArcError(t, "Hull", got, e, api.ErrArg)
		}
	}
}

// runs calculates the longest arcs of the marks that are in both sets, by From.
func runs(s, r *marks) []api.Arc {
	both := func(h int) bool { return s.has(h) && r.has(h) }
	var l []api.Arc
	for from := range 256 {
		if !both(from) || both(from-1) {
			continue
		}
		count := 1
		for both(from + count) {
			count++
		}
		l = append(l, arc(from, count))
	}
	if len(l) == 0 && both(0) {
		return []api.Arc{arc(0, 256)}
	}
	return l
}

func TestMeet(t *testing.T) {
	for _, a := range arcs() {
		for _, b := range arcs() {
			got := heading.Meet(a, b)
			if want := runs(marksOf(a), marksOf(b)); !slices.Equal(got, want) {
				t.Fatalf("Meet(%v, %v) is %v, not %v", a, b, got, want)
			}
		}
	}
	for _, c := range []struct {
		a, b api.Arc
		want []api.Arc
	}{
		{arc(200, 100), arc(0, 220), []api.Arc{arc(0, 44), arc(200, 20)}}, {arc(0, 220), arc(200, 100), []api.Arc{arc(0, 44), arc(200, 20)}},
		{arc(0, 256), arc(0, 256), []api.Arc{arc(0, 256)}}, {arc(0, 256), arc(250, 20), []api.Arc{arc(250, 20)}}, {arc(0, 255), arc(0, 256), []api.Arc{arc(0, 255)}},
		{arc(5, 3), arc(8, 3), nil}, {arc(5, 4), arc(8, 3), []api.Arc{arc(8, 1)}}, {arc(250, 20), arc(250, 20), []api.Arc{arc(250, 20)}},
		{arc(10, 255), arc(100, 255), []api.Arc{arc(10, 89), arc(100, 165)}}, {arc(10, 255), arc(9, 1), nil},
	} {
		if got := heading.Meet(c.a, c.b); !slices.Equal(got, c.want) {
			t.Errorf("Meet(%v, %v) is %v", c.a, c.b, got)
		}
	}
	for _, a := range noArcs() {
		for _, b := range []api.Arc{arc(3, 4), arc(0, 256), a} {
			if len(heading.Meet(a, b)) != 0 || len(heading.Meet(b, a)) != 0 {
				t.Fatalf("Meet of %v and %v", a, b)
			}
		}
	}
}

func TestArcsMeetAndJoin(t *testing.T) {
	for _, a := range arcs() {
		for _, b := range arcs() {
			hull, e := heading.Hull(a, b)
			both := heading.Meet(a, b)
			for h := range 256 {
				in, out := heading.Has(a, h), heading.Has(b, h)
				if e != api.OK || (in || out) && !heading.Has(hull, h) {
					t.Fatalf("Hull(%v, %v) is %v with the error %d", a, b, hull, e)
				}
				meets := slices.ContainsFunc(both, func(m api.Arc) bool { return heading.Has(m, h) })
				if meets != (in && out) {
					t.Fatalf("Meet(%v, %v) is %v", a, b, both)
				}
			}
		}
	}
}

// spoil overwrites all the memory that a result has.
func spoil[T any](l []T) {
	clear(l[:cap(l)])
}

func TestArcsShareNothing(t *testing.T) {
	for _, a := range arcs() {
		spoil(heading.List(a))
		if got := heading.List(a); len(got) != a.Count || got[0] != a.From {
			t.Fatalf("List(%v) is %v the second time", a, got)
		}
		for _, b := range []api.Arc{arc(0, 256), arc(200, 100)} {
			want := slices.Clone(heading.Meet(a, b))
			spoil(heading.Meet(a, b))
			if got := heading.Meet(a, b); !slices.Equal(got, want) {
				t.Fatalf("Meet(%v, %v) is %v the second time", a, b, got)
			}
		}
	}
}
