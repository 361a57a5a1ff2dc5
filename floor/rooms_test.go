package floor_test

import (
	"slices"
	"testing"

	"wayfinder/api"
	"wayfinder/floor"
)

// adjacent tells whether a and b have a common side.
func adjacent(a, b api.Cell) bool {
	dx, dy := a.X-b.X, a.Y-b.Y
	return dx*dx+dy*dy == 1
}

// roomsOf are by the definition the numbers of the rooms: free cells take the least place of a free cell next to them until nothing changes, and then the places are counted.
func roomsOf(p api.Plan) []int {
	places := make([]int, len(p.Cells))
	for i, v := range p.Cells {
		places[i] = i
		if v == api.Wall {
			places[i] = -1
		}
	}
	for changed := true; changed; {
		changed = false
		take := func(i, j int) {
			if places[i] >= 0 && places[j] >= 0 && places[i] != places[j] {
				places[i] = min(places[i], places[j])
				places[j] = places[i]
				changed = true
			}
		}
		for i := range places {
			if i%p.W > 0 {
				take(i, i-1)
			}
			if i >= p.W {
				take(i, i-p.W)
			}
		}
		for i := len(places) - 1; i >= p.W; i-- {
			take(i, i-p.W)
		}
	}
	firsts := slices.Clone(places)
	slices.Sort(firsts)
	firsts = slices.DeleteFunc(slices.Compact(firsts), func(n int) bool { return n < 0 })
	for i, place := range places {
		places[i] = slices.Index(firsts, place)
	}
	return places
}

// P9.1
func TestRoomsExamples(t *testing.T) {
	for _, c := range []struct {
		p    api.Plan
		want []int
	}{
		{rows("...", ".#."), []int{0, 0, 0, 0, -1, 0}},
		{rows("."), []int{0}},
		{rows("#"), []int{-1}},
		{rows(".#.", "#.#", ".#."), []int{0, -1, 1, -1, 2, -1, 3, -1, 4}},
		{rows("..#.", "##..", "....", "#.##"), []int{0, 0, -1, 1, -1, -1, 1, 1, 1, 1, 1, 1, -1, 1, -1, -1}},
		{rows("#.#.", "..#.", "#..."), []int{-1, 0, -1, 0, 0, 0, -1, 0, -1, 0, 0, 0}},
		{rows("#.#.", "..#."), []int{-1, 0, -1, 1, 0, 0, -1, 1}},
	} {
		got, e := floor.Rooms(c.p)
		if e != api.OK || !slices.Equal(got, c.want) {
			t.Errorf("Rooms(%v) is %v, %v, not %v", c.p, got, e, c.want)
		}
	}
}

// P9.1
func TestRooms(t *testing.T) {
	for _, p := range slices.Concat(tiny(), buildings(), large()) {
		got, e := floor.Rooms(p)
		if want := roomsOf(p); e != api.OK || !slices.Equal(got, want) {
			t.Errorf("Rooms(%v) is %v, %v, not %v", p, got, e, want)
		}
	}
	for _, p := range unknownPlans() {
		if got, e := floor.Rooms(p); len(got) != 0 || e != api.ErrForm {
			t.Errorf("Rooms(%v) is %v, %v", p, got, e)
		}
	}
	for _, p := range badPlans() {
		if got, e := floor.Rooms(p); len(got) != 0 || e != api.ErrArg {
			t.Errorf("Rooms(%v) is %v, %v", p, got, e)
		}
	}
}

// P9.1
func TestJoined(t *testing.T) {
	for _, p := range slices.Concat(tiny(), buildings()) {
		rooms := roomsOf(p)
		l := cellsOf(p)
		for i, a := range l {
			for j, b := range l {
				want := rooms[i] >= 0 && rooms[i] == rooms[j]
				if got := floor.Joined(p, a, b); got != want {
					t.Errorf("Joined(%v, %v, %v) is %v", p, a, b, got)
				}
				if adjacent(a, b) && value(p, a) == api.Free && value(p, b) == api.Free && !want {
					t.Errorf("%v and %v are not in one room of %v", a, b, p)
				}
			}
		}
	}
	p := snake(64, 63)
	if !floor.Joined(p, cell(0, 0), cell(0, 62)) || !floor.Joined(p, cell(63, 62), cell(0, 0)) || floor.Joined(p, cell(0, 0), cell(0, 1)) {
		t.Error("Joined of the ends of a long way")
	}
}

// P9.1
func TestJoinedInvalid(t *testing.T) {
	for _, p := range buildings() {
		if p.Cells[0] == api.Wall {
			continue
		}
		for _, c := range outsideOf(p) {
			if floor.Joined(p, c, c) || floor.Joined(p, cell(0, 0), c) || floor.Joined(p, c, cell(0, 0)) {
				t.Errorf("Joined(%v, %v) is true", p, c)
			}
		}
	}
	for _, p := range append(badPlans(), unknownPlans()...) {
		for _, c := range []api.Cell{cell(0, 0), cell(1, 1), cell(4, 4)} {
			if floor.Joined(p, c, c) {
				t.Errorf("Joined(%v, %v, %v) is true", p, c, c)
			}
		}
	}
}
