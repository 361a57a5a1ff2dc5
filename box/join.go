package box

import (
	"wayfinder/api"
	"wayfinder/heading"
)

// Hull returns the box with the least rectangle that contains both rectangles, and with the hull of both arcs; ErrArg if one is not valid.
func Hull(a, b Box) (Box, Errno) {
	arc, e := heading.Hull(arcOf(a), arcOf(b))
	if e != api.OK || !Valid(a) || !Valid(b) {
		return Box{}, api.ErrArg
	}
	r := Rect{X0: min(a.X0, b.X0), Y0: min(a.Y0, b.Y0), X1: max(a.X1, b.X1), Y1: max(a.Y1, b.Y1)}
	return join(r, arc), api.OK
}

// join returns the box of the poses with a position in r and a heading in a.
func join(r Rect, a Arc) Box {
	return Box{X0: r.X0, Y0: r.Y0, X1: r.X1, Y1: r.Y1, From: a.From, Count: a.Count}
}

// Meet returns the boxes of the poses that are in a and in b, in the order of the arcs of heading.Meet; none if one is not valid.
func Meet(a, b Box) []Box {
	if !Valid(a) || !Valid(b) {
		return nil
	}
	r := Rect{X0: max(a.X0, b.X0), Y0: max(a.Y0, b.Y0), X1: min(a.X1, b.X1), Y1: min(a.Y1, b.Y1)}
	if r.X0 > r.X1 || r.Y0 > r.Y1 {
		return nil
	}
	var l []Box
	for _, arc := range heading.Meet(arcOf(a), arcOf(b)) {
		l = append(l, join(r, arc))
	}
	return l
}

// Inside reports whether a and b are valid and every pose of a is in b.
func Inside(a, b Box) bool {
	// The hull is the least box with the poses of both, so it is b exactly if a adds none.
	h, e := Hull(a, b)
	return e == api.OK && h == b
}
