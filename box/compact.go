package box

import (
	"slices"

	"wayfinder/api"
)

// The greatest numbers of boxes before and after Compact.
const (
	maxBefore = 256
	maxAfter  = 64
)

// Compact reduces l to at most most boxes: as long as there are more, it replaces the pair whose hull adds the fewest poses by this hull. ErrRange if most is not from 1 to 64 or l has more than 256 boxes, ErrArg if one of them is not valid.
func Compact(l []Box, most int) ([]Box, Errno) {
	if most < 1 || most > maxAfter || len(l) > maxBefore {
		return nil, api.ErrRange
	}
	if slices.ContainsFunc(l, func(b Box) bool { return !Valid(b) }) {
		return nil, api.ErrArg
	}
	return compact(slices.Clone(l), most), api.OK
}

// compact joins boxes of l, which are valid, until there are at most most.
func compact(l []Box, most int) []Box {
	if len(l) <= most {
		return l
	}
	// The costs are kept, since a join changes only those of one box.
	costs := make([][]int, len(l))
	for i := range l {
		costs[i] = make([]int, len(l))
	}
	for i := range l {
		update(costs, l, i)
	}
	for len(l) > most {
		i, j := cheapest(costs)
		l[i], _ = Hull(l[i], l[j])
		l = slices.Delete(l, j, j+1)
		costs = without(costs, j)
		update(costs, l, i)
	}
	return l
}

// update sets the costs of all pairs with the box at i.
func update(costs [][]int, l []Box, i int) {
	for j := range l {
		c := cost(l[i], l[j])
		costs[i][j], costs[j][i] = c, c
	}
}

// cost returns the volume of the hull of a and b minus the volumes of both: below 0 if they have many poses in common.
func cost(a, b Box) int {
	h, _ := Hull(a, b)
	return Volume(h) - Volume(a) - Volume(b)
}

// cheapest returns the pair i < j with the least cost, of several the one with the least i, then the least j. There are at least two boxes.
func cheapest(costs [][]int) (int, int) {
	first, second := 0, 1
	for i, row := range costs {
		for j := i + 1; j < len(row); j++ {
			if row[j] < costs[first][second] {
				first, second = i, j
			}
		}
	}
	return first, second
}

// without removes the row and the column of the box at j.
func without(costs [][]int, j int) [][]int {
	costs = slices.Delete(costs, j, j+1)
	for i, row := range costs {
		costs[i] = slices.Delete(row, j, j+1)
	}
	return costs
}
