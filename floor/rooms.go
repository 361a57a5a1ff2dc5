package floor

import "wayfinder/api"

// noRoom stands for a wall among the numbers of rooms.
const noRoom = -1

// beside returns the four cells that are this far from c along a row or a column; those at 1 are adjacent to it.
func beside(c Cell, far int) [4]Cell {
	return [4]Cell{{X: c.X + far, Y: c.Y}, {X: c.X, Y: c.Y + far}, {X: c.X - far, Y: c.Y}, {X: c.X, Y: c.Y - far}}
}

// Rooms returns the number of its room for each free cell, and -1 for each wall; the error of Check.
func Rooms(p Plan) ([]int, Errno) {
	if e := Check(p); e != api.OK {
		return nil, e
	}
	rooms := make([]int, len(p.Cells))
	for i := range rooms {
		rooms[i] = noRoom
	}
	count := 0
	for i, value := range p.Cells {
		if value == api.Free && rooms[i] == noRoom {
			number(p, rooms, Cell{X: i % p.W, Y: i / p.W}, count)
			count++
		}
	}
	return rooms, api.OK
}

// number gives a number to the cells of the room of the free cell first, which have none yet.
func number(p Plan, rooms []int, first Cell, n int) {
	rooms[index(p, first)] = n
	open := []Cell{first}
	for len(open) > 0 {
		c := open[len(open)-1]
		open = open[:len(open)-1]
		for _, next := range beside(c, 1) {
			if isFree(p, next) && rooms[index(p, next)] == noRoom {
				rooms[index(p, next)] = n
				open = append(open, next)
			}
		}
	}
}

// Joined reports whether p is a building, and a and b are free cells of it in one room.
func Joined(p Plan, a, b Cell) bool {
	rooms, e := Rooms(p)
	if e != api.OK || !isFree(p, a) || !isFree(p, b) {
		return false
	}
	return rooms[index(p, a)] == rooms[index(p, b)]
}
