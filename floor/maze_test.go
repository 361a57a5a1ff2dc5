package floor_test

import (
	"math"
	"testing"

	"wayfinder/api"
	"wayfinder/floor"
)

// seeds are small numbers, and those at the ends of their range.
func seeds() []int {
	l := []int{math.MinInt, math.MinInt + 1, math.MaxInt, math.MaxInt - 1, 1 << 32, -1 << 32}
	for n := -5; n <= 20; n++ {
		l = append(l, n)
	}
	return l
}

// wantMaze demands that Maze is perfect, and returns it.
func wantMaze(t *testing.T, w, h, seed int) api.Plan {
	t.Helper()
	p, e := floor.Maze(w, h, seed)
	if e != api.OK || p.W != w || p.H != h || len(p.Cells) != w*h || floor.Check(p) != api.OK {
		t.Fatalf("Maze(%d, %d, %d) is %v, %v", w, h, seed, p, e)
	}
	chambers, between := 0, 0
	for i, c := range cellsOf(p) {
		free := p.Cells[i] == api.Free
		edge := c.X == 0 || c.Y == 0 || c.X == w-1 || c.Y == h-1
		switch {
		case c.X%2 == 1 && c.Y%2 == 1:
			chambers++
			if !free {
				t.Errorf("Maze(%d, %d, %d): the chamber %v is a wall", w, h, seed, c)
			}
		case edge || c.X%2 == 0 && c.Y%2 == 0:
			if free {
				t.Errorf("Maze(%d, %d, %d): %v is free", w, h, seed, c)
			}
		case free:
			between++
		}
	}
	if between != chambers-1 {
		t.Errorf("Maze(%d, %d, %d): %d chambers, and %d free cells between them", w, h, seed, chambers, between)
	}
	// With one free cell less than chambers and one room, no free cell between chambers can be spared.
	for i, room := range roomsOf(p) {
		if room != 0 && p.Cells[i] == api.Free {
			t.Fatalf("Maze(%d, %d, %d) has more than one room: %v", w, h, seed, p)
		}
	}
	if !floor.Solid(p) {
		t.Errorf("Maze(%d, %d, %d) is not solid", w, h, seed)
	}
	return p
}

// P9.1, P9.3
func TestMaze(t *testing.T) {
	for w := 3; w <= mostMaze; w += 2 {
		for h := 3; h <= mostMaze; h += 2 {
			wantMaze(t, w, h, w*64+h)
		}
	}
	for _, seed := range seeds() {
		for _, n := range [][2]int{{3, 3}, {3, 9}, {9, 3}, {5, 5}, {7, 5}, {11, 21}, {63, 63}} {
			wantMaze(t, n[0], n[1], seed)
		}
	}
	p, e := floor.Maze(3, 3, 7)
	wantPlan(t, "Maze of one chamber", p, e, rows("###", "#.#", "###"))
	p, e = floor.Maze(7, 3, -7)
	wantPlan(t, "Maze of one row", p, e, rows("#######", "#.....#", "#######"))
}

// P9.1: without any of the free cells between chambers, some would be separated.
func TestMazeIsPerfect(t *testing.T) {
	for seed := range 10 {
		p := wantMaze(t, 11, 9, seed)
		for i, c := range cellsOf(p) {
			if (c.X+c.Y)%2 == 0 || p.Cells[i] != api.Free {
				continue
			}
			q := clone(p)
			q.Cells[i] = api.Wall
			before, after := cell(c.X-c.Y%2, c.Y-c.X%2), cell(c.X+c.Y%2, c.Y+c.X%2)
			if !floor.Joined(p, before, after) || floor.Joined(q, before, after) {
				t.Errorf("seed %d: %v and %v are not joined by %v alone: %v", seed, before, after, c, p)
			}
		}
	}
}

// P9.1
func TestMazeFollowsSeed(t *testing.T) {
	different := 0
	first := wantMaze(t, 9, 9, 0)
	for _, seed := range seeds() {
		p, q := wantMaze(t, 9, 9, seed), wantMaze(t, 9, 9, seed)
		if !equal(p, q) {
			t.Errorf("Maze(9, 9, %d) is %v, and then %v", seed, p, q)
		}
		for i := range p.Cells {
			p.Cells[i] = 7
		}
		if !equal(q, wantMaze(t, 9, 9, seed)) {
			t.Errorf("two mazes of the seed %d share memory", seed)
		}
		if !equal(q, first) {
			different++
		}
	}
	if different < 25 {
		t.Errorf("only %d seeds give another maze than the seed 0", different)
	}
}

// P9.1
func TestMazeRange(t *testing.T) {
	for _, n := range append([]int{-3, -1, 0, 1, 2, 4, 6, 62, 64, 65, 67, 127, 129, -63, -65}, extremes...) {
		for _, good := range []int{3, 5, 63} {
			p, e := floor.Maze(n, good, 0)
			wantNoPlan(t, "Maze of a width", p, e, api.ErrRange)
			p, e = floor.Maze(good, n, 1)
			wantNoPlan(t, "Maze of a height", p, e, api.ErrRange)
		}
		p, e := floor.Maze(n, n, n)
		wantNoPlan(t, "Maze of a size", p, e, api.ErrRange)
	}
}
