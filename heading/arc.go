package heading

import "wayfinder/api"

// ValidArc reports whether a is valid.
func ValidArc(a Arc) bool {
	if a.Count == api.Marks {
		return a.From == 0
	}
	return a.From >= 0 && a.From < api.Marks && a.Count >= 1 && a.Count < api.Marks
}

// fullArc returns the arc of all marks.
func fullArc() Arc {
	return Arc{From: 0, Count: api.Marks}
}

// Has reports whether a is valid and has the mark h.
func Has(a Arc, h int) bool {
	return ValidArc(a) && residue(h-a.From) < a.Count
}

// List returns the marks of a valid arc, in their order; none if it is not valid.
func List(a Arc) []int {
	if !ValidArc(a) {
		return nil
	}
	l := make([]int, a.Count)
	for i := range l {
		l[i] = residue(a.From + i)
	}
	return l
}

// Shift returns the arc of the marks of a, plus n; ErrArg if a is not valid.
func Shift(a Arc, n int) (Arc, Errno) {
	if !ValidArc(a) {
		return Arc{}, api.ErrArg
	}
	if a.Count == api.Marks {
		return a, api.OK
	}
	return Arc{From: residue(a.From + n), Count: a.Count}, api.OK
}

// Grow returns the arc a with n more marks on both sides; ErrArg if a is not valid, ErrRange if n is not from 0 to 256.
func Grow(a Arc, n int) (Arc, Errno) {
	if !ValidArc(a) {
		return Arc{}, api.ErrArg
	}
	if n < 0 || n > api.Marks {
		return Arc{}, api.ErrRange
	}
	if a.Count+2*n >= api.Marks {
		return fullArc(), api.OK
	}
	return Arc{From: residue(a.From - n), Count: a.Count + 2*n}, api.OK
}

// Hull returns the arc with the least Count that has all marks of a and b, of several the one with the least From; ErrArg if one is not valid.
func Hull(a, b Arc) (Arc, Errno) {
	if !ValidArc(a) || !ValidArc(b) {
		return Arc{}, api.ErrArg
	}
	// The least arc begins where a or b does, unless it is full.
	p, q := cover(a, b), cover(b, a)
	if q.Count < p.Count || q.Count == p.Count && q.From < p.From {
		return q, api.OK
	}
	return p, api.OK
}

// cover returns the least arc that begins where a does and has all marks of a and b; the full one if only that has them.
func cover(a, b Arc) Arc {
	n := max(a.Count, residue(b.From-a.From)+b.Count)
	if n >= api.Marks {
		return fullArc()
	}
	return Arc{From: a.From, Count: n}
}

// Meet returns the marks that are in a and in b, as arcs that are as long as possible, by From; none if one is not valid.
func Meet(a, b Arc) []Arc {
	if !ValidArc(a) || !ValidArc(b) {
		return nil
	}
	if a.Count == api.Marks && b.Count == api.Marks {
		return []Arc{fullArc()}
	}
	// Such an arc begins where a or b does.
	first, second := min(a.From, b.From), max(a.From, b.From)
	l := meetFrom(nil, a, b, first)
	if second == first {
		return l
	}
	return meetFrom(l, a, b, second)
}

// meetFrom appends the arc of the marks in a and in b that begins at the mark m, if there is one. Not both a and b are full.
func meetFrom(l []Arc, a, b Arc, m int) []Arc {
	begins := Has(a, m) && Has(b, m)
	continues := Has(a, m-1) && Has(b, m-1)
	if !begins || continues {
		return l
	}
	return append(l, Arc{From: m, Count: min(ahead(a, m), ahead(b, m))})
}

// ahead returns the number of consecutive marks of a from its mark m on.
func ahead(a Arc, m int) int {
	if a.Count == api.Marks {
		return api.Marks
	}
	return a.Count - residue(m-a.From)
}
