package box_test

import (
	"slices"
	"testing"

	"wayfinder/api"
	"wayfinder/box"
)

// P6.1

func TestValid(t *testing.T) {
	for _, b := range boxes() {
		if !box.Valid(b) {
			t.Errorf("%v is valid", b)
		}
	}
	for _, b := range badBoxes() {
		if box.Valid(b) {
			t.Errorf("%v is not valid", b)
		}
	}
}

func TestValidHeadings(t *testing.T) {
	for from := -3; from <= 260; from++ {
		for count := -3; count <= 260; count++ {
			want := from >= 0 && from <= 255 && count >= 1 && count <= 256 && (count < 256 || from == 0)
			if b := boxOf(0, 0, 1, 1, from, count); box.Valid(b) != want {
				t.Errorf("Valid(%v) is %t", b, !want)
			}
		}
	}
}

func TestHas(t *testing.T) {
	for _, b := range smallBoxes() {
		for y := -span; y <= span; y++ {
			for x := -span; x <= span; x++ {
				for h := range 256 {
					if box.Has(b, pose(x, y, h)) != contains(b, x, y, h) {
						t.Fatalf("Has(%v, %v)", b, pose(x, y, h))
					}
				}
			}
		}
	}
}

func TestHasAtTheLimits(t *testing.T) {
	b := boxOf(most-9, -most, most, -most+4, 250, 10)
	for p, want := range map[api.Pose]bool{
		pose(most, -most, 250): true, pose(most-9, -most+4, 3): true, pose(most-10, -most, 255): false, pose(most+1, -most, 255): false,
		pose(most, -most-1, 255): false, pose(most, -most+5, 255): false, pose(most, -most, 249): false, pose(most, -most, 4): false,
	} {
		if box.Has(b, p) != want {
			t.Errorf("Has of %v is %t", p, !want)
		}
	}
	for _, n := range extremes {
		for _, b := range boxes() {
			if box.Has(b, pose(n, b.Y0, b.From)) || box.Has(b, pose(b.X0, n, b.From)) {
				t.Errorf("Has(%v) of a pose with the coordinate %d", b, n)
			}
		}
	}
}

func TestHasOfAnyHeading(t *testing.T) {
	for _, b := range boxes() {
		for _, h := range append([]int{-1, -5, -6, -7, -256, -255, 256, 259, 260, 506, 1<<40 + 3}, extremes...) {
			// The lowest eight bits are the residue, also of a negative number.
			if want := contains(b, b.X0, b.Y1, h&255); box.Has(b, pose(b.X0, b.Y1, h)) != want {
				t.Errorf("Has(%v) of the heading %d is %t", b, h, !want)
			}
		}
	}
}

func TestHasOfNoBox(t *testing.T) {
	for _, b := range badBoxes() {
		for _, p := range []api.Pose{{}, pose(b.X0, b.Y0, b.From), pose(b.X1, b.Y1, b.From), pose(1, 1, 1)} {
			if box.Has(b, p) || box.Covers([]api.Box{b, b}, p) {
				t.Errorf("Has(%v, %v)", b, p)
			}
		}
	}
}

func TestVolume(t *testing.T) {
	for _, b := range smallBoxes() {
		if got := box.Volume(b); got != of(b).size() {
			t.Errorf("Volume(%v) is %d, not %d", b, got, of(b).size())
		}
	}
	for b, want := range map[api.Box]int{
		boxOf(0, 0, 9, 4, 250, 10): 500, largest(): (1<<21 + 1) * (1<<21 + 1) * 256, boxOf(most, most, most, most, 255, 1): 1,
		boxOf(-most, 5, most, 5, 31, 64): (1<<21 + 1) * 64, boxOf(-64, 1000, 63, 5000, 3, 200): 128 * 4001 * 200,
	} {
		if got := box.Volume(b); got != want {
			t.Errorf("Volume(%v) is %d, not %d", b, got, want)
		}
	}
	for _, b := range badBoxes() {
		if got := box.Volume(b); got != 0 {
			t.Errorf("Volume(%v) is %d", b, got)
		}
	}
}

func TestRectangle(t *testing.T) {
	for _, b := range boxes() {
		if got := box.Rectangle(b); got != (api.Rect{X0: b.X0, Y0: b.Y0, X1: b.X1, Y1: b.Y1}) {
			t.Errorf("Rectangle(%v) is %v", b, got)
		}
	}
	for _, b := range badBoxes() {
		if got := box.Rectangle(b); got != (api.Rect{}) {
			t.Errorf("Rectangle(%v) is %v", b, got)
		}
	}
}

func TestCorners(t *testing.T) {
	for _, b := range boxes() {
		want := []api.Point{point(b.X0, b.Y0), point(b.X1, b.Y0), point(b.X0, b.Y1), point(b.X1, b.Y1)}
		if got := box.Corners(b); !slices.Equal(got, want) {
			t.Errorf("Corners(%v) is %v", b, got)
		}
		clear(box.Corners(b))
		if got := box.Corners(b); !slices.Equal(got, want) {
			t.Errorf("Corners(%v) is %v the second time", b, got)
		}
	}
	if got := box.Corners(boxOf(7, 8, 7, 8, 0, 1)); !slices.Equal(got, []api.Point{point(7, 8), point(7, 8), point(7, 8), point(7, 8)}) {
		t.Errorf("Corners of a point are %v", got)
	}
	for _, b := range badBoxes() {
		if got := box.Corners(b); len(got) != 0 {
			t.Errorf("Corners(%v) is %v", b, got)
		}
	}
}

func TestCovers(t *testing.T) {
	s := source(1)
	for range 40 {
		l := s.list(s.next(0, 5), 3, 60)
		c := of(l...)
		// A box that is not valid has no pose.
		l = append(l, boxOf(-3, -3, 3, 3, 1, 256), boxOf(3, 3, -3, -3, 0, 256))
		for range 2000 {
			x, y, h := s.next(-span, span), s.next(-span, span), s.next(0, 255)
			if want := c[y+span][x+span][h]; box.Covers(l, pose(x, y, h+256*s.next(-2, 2))) != want {
				t.Fatalf("Covers(%v, %v) is %t", l, pose(x, y, h), !want)
			}
		}
	}
	if box.Covers(nil, pose(0, 0, 0)) || box.Covers([]api.Box{}, pose(0, 0, 0)) {
		t.Error("no boxes cover a pose")
	}
}
