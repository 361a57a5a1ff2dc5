package box_test

import (
	"slices"
	"testing"

	"wayfinder/api"
	"wayfinder/box"
	"wayfinder/heading"
)

// P6.1 and P6.3

// leastArc finds the hull of the arcs of two boxes: for each mark, the least arc that begins there ends before the marks in front of it that are in neither.
func leastArc(a, b api.Box) (int, int) {
	var in [256]bool
	for _, b := range []api.Box{a, b} {
		for i := range b.Count {
			in[(b.From+i)%256] = true
		}
	}
	from, count := 0, 256
	for f := range 256 {
		n := 256
		for n > 0 && !in[(f+n-1)%256] {
			n--
		}
		if n < count {
			from, count = f, n
		}
	}
	return from, count
}

// leastBox is the hull of two boxes.
func leastBox(a, b api.Box) api.Box {
	from, count := leastArc(a, b)
	return boxOf(min(a.X0, b.X0), min(a.Y0, b.Y0), max(a.X1, b.X1), max(a.Y1, b.Y1), from, count)
}

func TestHull(t *testing.T) {
	for _, a := range boxes() {
		for _, b := range boxes() {
			got, e := box.Hull(a, b)
			if want := leastBox(a, b); e != api.OK || got != want {
				t.Fatalf("Hull(%v, %v) is %v with the error %d, not %v", a, b, got, e, want)
			}
		}
	}
	s := source(2)
	for range 2000 {
		a, b := s.box(most, 256), s.box(100, 40)
		got, e := box.Hull(a, b)
		if want := leastBox(a, b); e != api.OK || got != want {
			t.Fatalf("Hull(%v, %v) is %v with the error %d, not %v", a, b, got, e, want)
		}
	}
	for _, c := range []struct{ a, b, want api.Box }{
		{boxOf(0, 0, 9, 4, 250, 10), boxOf(20, 2, 20, 2, 4, 1), boxOf(0, 0, 20, 4, 250, 11)},
		// Both ways round are equally long.
		{boxOf(1, 1, 2, 2, 200, 1), boxOf(-3, 5, -1, 6, 72, 1), boxOf(-3, 1, 2, 6, 72, 129)},
		// Both arcs together are everything.
		{boxOf(1, 1, 2, 2, 10, 128), boxOf(1, 1, 2, 2, 138, 128), boxOf(1, 1, 2, 2, 0, 256)},
	} {
		if got, e := box.Hull(c.a, c.b); e != api.OK || got != c.want {
			t.Errorf("Hull(%v, %v) is %v with the error %d", c.a, c.b, got, e)
		}
		if got, e := box.Hull(c.b, c.a); e != api.OK || got != c.want {
			t.Errorf("Hull(%v, %v) is %v with the error %d", c.b, c.a, got, e)
		}
	}
}

func TestHullErrors(t *testing.T) {
	for _, a := range badBoxes() {
		for _, b := range []api.Box{boxOf(0, 0, 1, 1, 0, 1), largest(), a} {
			got, e := box.Hull(a, b)
			wantError(t, "Hull", got, e, api.ErrArg)
			got, e = box.Hull(b, a)
			wantError(t, "Hull", got, e, api.ErrArg)
		}
	}
}

func TestHullContainsBoth(t *testing.T) {
	for _, a := range smallBoxes() {
		for _, b := range smallBoxes() {
			if h, e := box.Hull(a, b); e != api.OK || !within(of(a, b), of(h)) {
				t.Fatalf("Hull(%v, %v) is %v", a, b, h)
			}
		}
	}
}

// metBoxes calculates the result of Meet with the arcs of heading.Meet.
func metBoxes(a, b api.Box) []api.Box {
	x0, x1, y0, y1 := max(a.X0, b.X0), min(a.X1, b.X1), max(a.Y0, b.Y0), min(a.Y1, b.Y1)
	var l []api.Box
	for _, m := range heading.Meet(api.Arc{From: a.From, Count: a.Count}, api.Arc{From: b.From, Count: b.Count}) {
		if x0 <= x1 && y0 <= y1 {
			l = append(l, boxOf(x0, y0, x1, y1, m.From, m.Count))
		}
	}
	return l
}

func TestMeet(t *testing.T) {
	for _, a := range boxes() {
		for _, b := range boxes() {
			want := metBoxes(a, b)
			if got := box.Meet(a, b); !slices.Equal(got, want) {
				t.Fatalf("Meet(%v, %v) is %v, not %v", a, b, got, want)
			}
			clear(box.Meet(a, b))
			if got := box.Meet(a, b); !slices.Equal(got, want) {
				t.Fatalf("Meet(%v, %v) is %v the second time", a, b, got)
			}
		}
	}
	for _, c := range []struct {
		a, b api.Box
		want []api.Box
	}{
		{boxOf(0, 0, 9, 4, 200, 100), boxOf(5, -3, 20, 2, 0, 220), []api.Box{boxOf(5, 0, 9, 2, 0, 44), boxOf(5, 0, 9, 2, 200, 20)}},
		// A corner, an edge, and one step beside them.
		{boxOf(0, 0, 9, 4, 250, 10), boxOf(9, 4, 20, 20, 3, 9), []api.Box{boxOf(9, 4, 9, 4, 3, 1)}},
		{boxOf(0, 0, 9, 4, 250, 10), boxOf(-5, -5, 5, 0, 250, 10), []api.Box{boxOf(0, 0, 5, 0, 250, 10)}},
		{boxOf(0, 0, 9, 4, 250, 10), boxOf(10, 4, 20, 20, 3, 9), nil},
		{boxOf(0, 0, 9, 4, 250, 10), boxOf(9, 5, 20, 20, 3, 9), nil},
		{boxOf(0, 0, 9, 4, 250, 10), boxOf(9, 4, 20, 20, 4, 9), nil},
		{largest(), largest(), []api.Box{largest()}},
	} {
		if got := box.Meet(c.a, c.b); !slices.Equal(got, c.want) {
			t.Errorf("Meet(%v, %v) is %v", c.a, c.b, got)
		}
		if got := box.Meet(c.b, c.a); !slices.Equal(got, c.want) {
			t.Errorf("Meet(%v, %v) is %v", c.b, c.a, got)
		}
	}
}

func TestMeetOfNoBox(t *testing.T) {
	for _, a := range badBoxes() {
		for _, b := range []api.Box{boxOf(0, 0, 1, 1, 0, 1), largest(), a} {
			if len(box.Meet(a, b)) != 0 || len(box.Meet(b, a)) != 0 {
				t.Fatalf("Meet of %v and %v", a, b)
			}
		}
	}
}

func TestMeetHasTheCommonPoses(t *testing.T) {
	for _, a := range smallBoxes() {
		for _, b := range smallBoxes() {
			l := box.Meet(a, b)
			c, volume := of(l...), 0
			for _, m := range l {
				volume += box.Volume(m)
			}
			// The volumes add up exactly if no pose is in two boxes.
			if c.size() != volume || !within(c, of(a)) || !within(c, of(b)) {
				t.Fatalf("Meet(%v, %v) is %v", a, b, l)
			}
			if n := len(common(a, b)); n != volume {
				t.Fatalf("Meet(%v, %v) has %d poses, not %d", a, b, volume, n)
			}
		}
	}
}

// common lists the poses that are in both boxes.
func common(a, b api.Box) []api.Pose {
	var l []api.Pose
	for y := a.Y0; y <= a.Y1; y++ {
		for x := a.X0; x <= a.X1; x++ {
			for i := range a.Count {
				if h := (a.From + i) % 256; box.Has(b, pose(x, y, h)) {
					l = append(l, pose(x, y, h))
				}
			}
		}
	}
	return l
}

func TestInside(t *testing.T) {
	s := source(3)
	l := smallBoxes()
	for range 20 {
		l = append(l, s.box(3, 256), s.box(3, 12))
	}
	for _, a := range l {
		for _, b := range l {
			if want := within(of(a), of(b)); box.Inside(a, b) != want {
				t.Fatalf("Inside(%v, %v) is %t", a, b, !want)
			}
		}
		if !box.Inside(a, a) || !box.Inside(a, largest()) || box.Inside(largest(), a) {
			t.Errorf("Inside of %v and the box of all poses", a)
		}
	}
	b := boxOf(2, 3, 8, 9, 250, 10)
	for a, want := range map[api.Box]bool{
		boxOf(2, 3, 8, 9, 250, 10): true, boxOf(3, 3, 8, 8, 0, 4): true, boxOf(3, 3, 8, 8, 0, 5): false, boxOf(3, 3, 8, 8, 249, 2): false,
		boxOf(1, 3, 8, 9, 250, 10): false, boxOf(2, 2, 8, 9, 250, 10): false, boxOf(2, 3, 9, 9, 250, 10): false, boxOf(2, 3, 8, 10, 250, 10): false,
		boxOf(2, 3, 8, 9, 251, 10): false, boxOf(2, 3, 8, 9, 0, 256): false, boxOf(2, 3, 8, 9, 250, 9): true, boxOf(2, 3, 8, 9, 251, 255): false,
	} {
		if box.Inside(a, b) != want {
			t.Errorf("Inside(%v, %v) is %t", a, b, !want)
		}
	}
}

func TestInsideOfNoBox(t *testing.T) {
	for _, a := range badBoxes() {
		for _, b := range []api.Box{boxOf(0, 0, 1, 1, 0, 1), largest(), a} {
			if box.Inside(a, b) || box.Inside(b, a) {
				t.Fatalf("Inside of %v and %v", a, b)
			}
		}
	}
}
