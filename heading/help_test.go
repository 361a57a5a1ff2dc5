package heading_test

import (
	"cmp"
	"math"
	"math/big"
	"testing"

	"wayfinder/api"
)

// far are numbers of turns by which a mark may be moved without being another one.
var far = []int{0, 1, -1, 5, -7, 1 << 50, -1 << 50}

// extremes are the ints at the ends of their range.
var extremes = []int{math.MinInt, math.MinInt + 1, math.MaxInt - 1, math.MaxInt}

func vector(x, y, d int) api.Vector {
	return api.Vector{X: x, Y: y, D: d}
}

func arc(from, count int) api.Arc {
	return api.Arc{From: from, Count: count}
}

// direction is an exact point of the unit circle.
type direction struct {
	x, y *big.Rat
}

// at is the direction (x, y)/d.
func at(x, y, d int) direction {
	return direction{big.NewRat(int64(x), int64(d)), big.NewRat(int64(y), int64(d))}
}

func (a direction) times(b direction) direction {
	l, r := new(big.Rat).Mul(a.x, b.x), new(big.Rat).Mul(a.y, b.y)
	u, v := new(big.Rat).Mul(a.x, b.y), new(big.Rat).Mul(a.y, b.x)
	return direction{l.Sub(l, r), u.Add(u, v)}
}

// length is D of the direction in lowest terms.
func (a direction) length() *big.Int {
	x, y := a.x.Denom(), a.y.Denom()
	common := new(big.Int).GCD(nil, nil, x, y)
	return new(big.Int).Mul(x, new(big.Int).Quo(y, common))
}

// exact calculates a direction by its definition, independently of the program.
func exact(v api.Vector) direction {
	return at(v.X, v.Y, v.D)
}

// compass calculates the direction of a mark from 0 to 255 by its definition.
func compass(h int) direction {
	k := h % 64
	d := at(4096-k*k, 128*k, 4096+k*k)
	for range h / 64 {
		d = d.times(at(0, 1, 1))
	}
	return d
}

// isValid decides with integers that don't wrap around.
func isValid(v api.Vector) bool {
	square := func(n int) *big.Int {
		b := big.NewInt(int64(n))
		return b.Mul(b, b)
	}
	sum := square(v.X)
	sum.Add(sum, square(v.Y))
	return v.D >= 1 && v.D <= 1<<26 && sum.Cmp(square(v.D)) == 0
}

// isLowest tells whether the three numbers of v have no common factor.
func isLowest(v api.Vector) bool {
	common := new(big.Int).GCD(nil, nil, big.NewInt(int64(max(v.X, -v.X))), big.NewInt(int64(max(v.Y, -v.Y))))
	common.GCD(nil, nil, common, big.NewInt(int64(v.D)))
	return common.Cmp(big.NewInt(1)) == 0
}

// wantDirection demands the valid vector in lowest terms that has this direction.
func wantDirection(t *testing.T, what string, got api.Vector, want direction) {
	t.Helper()
	if !isValid(got) || !isLowest(got) {
		t.Fatalf("%s: %v is not a valid vector in lowest terms", what, got)
	}
	if d := exact(got); d.x.Cmp(want.x) != 0 || d.y.Cmp(want.y) != 0 {
		t.Fatalf("%s: got %v, want (%v, %v)", what, got, want.x, want.y)
	}
}

// byAngle compares the angles of valid vectors: from 0 to 180 degrees the cosine falls, from there on it rises.
func byAngle(a, b api.Vector) int {
	switch {
	case a.Y >= 0 && b.Y < 0:
		return -1
	case a.Y < 0 && b.Y >= 0:
		return 1
	case a.Y < 0:
		return cmp.Compare(a.X*b.D, b.X*a.D)
	}
	return cmp.Compare(b.X*a.D, a.X*b.D)
}

// around is v in all four quadrants, and mirrored in the diagonals.
func around(v api.Vector) []api.Vector {
	var l []api.Vector
	for _, x := range []int{v.X, -v.X} {
		for _, y := range []int{v.Y, -v.Y} {
			l = append(l, vector(x, y, v.D), vector(y, x, v.D))
		}
	}
	return l
}

// steep is the direction whose half angle has the tangent n/m, in no special terms.
func steep(m, n int) api.Vector {
	return vector(m*m-n*n, 2*m*n, m*m+n*n)
}

// few are vectors on the axes, in all quadrants, long and short, in lowest terms and not, few enough for tests with three of them.
func few() []api.Vector {
	return []api.Vector{
		vector(1, 0, 1), vector(0, 7, 7), vector(-1<<26, 0, 1<<26), vector(0, -1, 1),
		vector(3, 4, 5), vector(6, 8, 10), vector(-3, 4, 5), vector(-8, -6, 10), vector(3, -4, 5),
		vector(5, 12, 13), vector(-24, 7, 25), vector(119, -120, 169),
		vector(35, 12, 37), vector(1740025, 511872, 1813753), vector(1740025, -511872, 1813753),
		vector(13106555, 2891748, 13421773), vector(-2964780, 67043339, 67108861),
	}
}

// samples are valid vectors of every direction and length.
func samples() []api.Vector {
	l := few()
	for m := 1; m <= 7; m++ {
		for n := range m + 1 {
			l = append(l, around(steep(m, n))...)
		}
	}
	for _, v := range few() {
		l = append(l, around(v)...)
	}
	// Close to the axes, to the diagonals and to one another.
	for _, n := range []int{1, 2, 127} {
		l = append(l, around(steep(8191, n))...)
	}
	return append(l, around(steep(4097, 4096))...)
}

// invalid are vectors that are not valid, though some seem so to integers that wrap around.
func invalid() []api.Vector {
	l := []api.Vector{
		{}, vector(0, 0, 1), vector(0, 1, 0), vector(1, 0, 0), vector(1, 1, 1), vector(3, 4, 6), vector(3, 4, 4), vector(3, 5, 5),
		vector(3, 4, -5), vector(1, 0, -1), vector(-1, 0, -1), vector(2, 0, 1), vector(0, -2, 1),
		vector(1<<26+1, 0, 1<<26+1), vector(0, -1<<26-1, 1<<26+1), vector(67108863, 16384, 1<<26+1), vector(3<<26, 4<<26, 5<<26),
		vector(1<<26, 1, 1<<26), vector(1<<26+1, 0, 1<<26), vector(1<<32, 0, 1<<32), vector(1<<32, 5, 5), vector(5, -1<<33, 5),
		vector(1<<32, 1<<32, 1<<26), vector(math.MinInt+3, 4, 5), vector(3, math.MinInt+4, 5), vector(3, 4, math.MinInt+5), vector(math.MinInt, 5, 5),
	}
	for _, n := range extremes {
		l = append(l, vector(n, 0, n), vector(0, n, n), vector(n, 0, 1), vector(0, n, 1), vector(1, 0, n), vector(n, n, n))
	}
	return l
}

// marks is a set of marks.
type marks [256]bool

// has tells whether the mark h modulo 256 is in the set.
func (s *marks) has(h int) bool {
	return s[(h%256+256)%256]
}

// marksOf calculates the marks of a valid arc by the definition.
func marksOf(a api.Arc) *marks {
	var s marks
	for i := range a.Count {
		s[(a.From+i)%256] = true
	}
	return &s
}

// isArc tells whether an arc is valid, by the definition.
func isArc(a api.Arc) bool {
	if a.From < 0 || a.From > 255 || a.Count < 1 || a.Count > 256 {
		return false
	}
	return a.Count < 256 || a.From == 0
}

// wantArc demands the valid arc that has exactly the marks for which in holds.
func wantArc(t *testing.T, what string, got api.Arc, e api.Errno, in func(h int) bool) {
	t.Helper()
	if e != api.OK || !isArc(got) {
		t.Fatalf("%s: got %v with the error %d", what, got, e)
	}
	s := marksOf(got)
	for h := range 256 {
		if s[h] != in(h) {
			t.Fatalf("%s: got %v, which is wrong about the mark %d", what, got, h)
		}
	}
}

// wantArcError demands this error, and no arc.
func wantArcError(t *testing.T, what string, got api.Arc, e, want api.Errno) {
	t.Helper()
	if e != want || got != arc(0, 0) {
		t.Fatalf("%s: got %v with the error %d, want the error %d", what, got, e, want)
	}
}

// arcs are short and long arcs, also ones that go over the mark 0.
func arcs() []api.Arc {
	l := []api.Arc{arc(0, 256)}
	for _, from := range []int{0, 1, 2, 5, 63, 64, 100, 127, 128, 129, 200, 250, 254, 255} {
		for _, count := range []int{1, 2, 3, 10, 56, 64, 127, 128, 129, 192, 200, 253, 254, 255} {
			l = append(l, arc(from, count))
		}
	}
	return l
}

// allArcs are the valid arcs.
func allArcs() []api.Arc {
	l := []api.Arc{arc(0, 256)}
	for from := range 256 {
		for count := 1; count < 256; count++ {
			l = append(l, arc(from, count))
		}
	}
	return l
}

// noArcs are arcs that are not valid.
func noArcs() []api.Arc {
	l := []api.Arc{{}, arc(5, 0), arc(0, -1), arc(0, 257), arc(1, 256), arc(128, 256), arc(255, 256), arc(-1, 256), arc(256, 256), arc(-1, 1), arc(256, 1), arc(257, 255), arc(-256, 3), arc(7, 512), arc(0, 1<<32)}
	for _, n := range extremes {
		l = append(l, arc(n, 1), arc(n, 256), arc(0, n), arc(n, n))
	}
	return l
}
