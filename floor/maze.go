package floor

import (
	"wayfinder/api"
	"wayfinder/plan"
)

// The limits of the sides of a maze.
const (
	minMaze = 3
	maxMaze = 63
)

// isMazeSide reports whether n may be the number of cells of a side of a maze.
func isMazeSide(n int) bool {
	return minMaze <= n && n <= maxMaze && n%2 == 1
}

// Maze returns a building whose chambers, the cells with two odd coordinates, are joined by a spanning tree that the seed determines; ErrRange for a size that is not permitted.
func Maze(w, h int, seed int) (Plan, Errno) {
	if !isMazeSide(w) || !isMazeSide(h) {
		return Plan{}, api.ErrRange
	}
	p, _ := plan.New(w, h, api.Wall)
	dig(p, draws(seed))
	return p, api.OK
}

// draws are numbers that a seed determines.
type draws uint64

// next returns a number from 0 to n-1. It spreads the state over all bits (the mixer of splitmix64), so that seeds that are close to one another give different mazes.
func (d *draws) next(n int) int {
	*d += 0x9E3779B97F4A7C15
	z := uint64(*d)
	z = (z ^ z>>30) * 0xBF58476D1CE4E5B9
	z = (z ^ z>>27) * 0x94D049BB133111EB
	return int((z ^ z>>31) % uint64(n))
}

// dig opens the chambers of a plan of walls along a way that turns back where all chambers around are open: so each chamber but the first is joined to just one that was open before.
func dig(p Plan, d draws) {
	first := Cell{X: 1, Y: 1}
	p.Cells[index(p, first)] = api.Free
	way := []Cell{first}
	for len(way) > 0 {
		c := way[len(way)-1]
		sides := closed(p, c)
		if len(sides) == 0 {
			way = way[:len(way)-1]
			continue
		}
		side := sides[d.next(len(sides))]
		between, chamber := beside(c, 1)[side], beside(c, 2)[side]
		p.Cells[index(p, between)], p.Cells[index(p, chamber)] = api.Free, api.Free
		way = append(way, chamber)
	}
}

// closed returns the sides of the chamber c, in the order of beside, at which the next chamber is not open.
func closed(p Plan, c Cell) []int {
	var sides []int
	for side, chamber := range beside(c, 2) {
		if has(p, chamber) && !isFree(p, chamber) {
			sides = append(sides, side)
		}
	}
	return sides
}
