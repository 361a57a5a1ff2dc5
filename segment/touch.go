package segment

// maxWay is the greatest difference of the ends of a segment in a coordinate, and the greatest radius, for Touch.
const maxWay = 1 << 10

// Touch reports whether all arguments are valid and the distance from the segment pq to r is at most the radius.
func Touch(p, q Point, r Rect, radius int) bool {
	if !validWay(p, q) || !ValidRect(r) || radius < 0 || radius > maxWay {
		return false
	}
	most := radius * radius
	if Gap(p, r) <= most || Gap(q, r) <= most || runsInto(p, q, r) {
		return true
	}
	// A segment that keeps away from r, and is not nearest at one of its ends, is nearest at a corner of r.
	for _, c := range [4]Point{{X: r.X0, Y: r.Y0}, {X: r.X1, Y: r.Y0}, {X: r.X0, Y: r.Y1}, {X: r.X1, Y: r.Y1}} {
		if passesBy(p, q, c, most) {
			return true
		}
	}
	return false
}

// validWay reports whether p and q are valid and near enough to one another.
func validWay(p, q Point) bool {
	if !validPoint(p) || !validPoint(q) {
		return false
	}
	x, y := q.X-p.X, q.Y-p.Y
	return max(x, -x, y, -y) <= maxWay
}

// runsInto reports whether the segment pq has a point in r.
func runsInto(p, q Point, r Rect) bool {
	s, ok := passage(p, q.X-p.X, q.Y-p.Y, r)
	return ok && s.in.N <= s.in.D
}

// passesBy reports whether the point of the segment pq that is nearest to c is none of its ends, and has a squared distance of at most most.
func passesBy(p, q, c Point, most int) bool {
	// Without this test the square below might wrap around.
	if Gap(c, hull(p, q)) > most {
		return false
	}
	x, y := q.X-p.X, q.Y-p.Y
	length := x*x + y*y
	along := x*(c.X-p.X) + y*(c.Y-p.Y)
	if along <= 0 || along >= length {
		return false
	}
	side := product(p, q, c)
	return side*side <= most*length
}
