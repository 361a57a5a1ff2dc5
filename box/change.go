package box

import "wayfinder/api"

// headingSize is what one heading counts in the sizes that Split compares, where a value of X or Y counts 1.
const headingSize = 8

// Split divides a valid box with more than one pose in the dimension with the greatest size, of equal ones the first of X, Y, heading. The first result has the floor of half of the values there, the second one the others. For other boxes the results are zero and false.
func Split(b Box) (Box, Box, bool) {
	if !Valid(b) {
		return Box{}, Box{}, false
	}
	x, y, h := size(b.X1-b.X0+1, 1), size(b.Y1-b.Y0+1, 1), size(b.Count, headingSize)
	first, second := b, b
	switch max(x, y, h) {
	case 0:
		return Box{}, Box{}, false
	case x:
		second.X0 = b.X0 + x/2
		first.X1 = second.X0 - 1
	case y:
		second.Y0 = b.Y0 + y/2
		first.Y1 = second.Y0 - 1
	default:
		first.Count = b.Count / 2
		second.Count = b.Count - first.Count
		second.From = (b.From + first.Count) % api.Marks
	}
	return first, second, true
}

// size returns the size of a dimension with so many values; 0 if it can't be divided.
func size(values, each int) int {
	if values == 1 {
		return 0
	}
	return values * each
}

// Move returns the box of the poses of b, moved by dx0 to dx1 and dy0 to dy1; ErrArg if b is not valid, dx0 > dx1 or dy0 > dy1, ErrRange if a new coordinate is beyond the limit.
func Move(b Box, dx0, dx1, dy0, dy1 int) (Box, Errno) {
	if !Valid(b) || dx0 > dx1 || dy0 > dy1 {
		return Box{}, api.ErrArg
	}
	if !reaches(b.X0, dx0) || !reaches(b.X1, dx1) || !reaches(b.Y0, dy0) || !reaches(b.Y1, dy1) {
		return Box{}, api.ErrRange
	}
	return Box{X0: b.X0 + dx0, Y0: b.Y0 + dy0, X1: b.X1 + dx1, Y1: b.Y1 + dy1, From: b.From, Count: b.Count}, api.OK
}

// reaches reports whether the coordinate n, moved by d, is a coordinate. Its sums don't wrap around, whatever d is.
func reaches(n, d int) bool {
	return -api.MaxCoord-n <= d && d <= api.MaxCoord-n
}
