package integer_test

import (
	"math"
	"math/big"
	"slices"
	"testing"

	"wayfinder/api"
	"wayfinder/integer"
)

// literal makes an Int as it is written, canonical or not.
func literal(negative bool, mag ...uint32) api.Int {
	return api.Int{Neg: negative, Mag: mag}
}

// valueOf calculates the value by its definition, independently of the package.
func valueOf(x api.Int) *big.Int {
	v := new(big.Int)
	for _, w := range slices.Backward(x.Mag) {
		v.Lsh(v, 32).Or(v, big.NewInt(int64(w)))
	}
	if x.Neg {
		v.Neg(v)
	}
	return v
}

func isCanonical(x api.Int) bool {
	n := len(x.Mag)
	if n == 0 {
		return !x.Neg
	}
	return x.Mag[n-1] != 0
}

func wantBig(t *testing.T, what string, got api.Int, want *big.Int) {
	t.Helper()
	if !isCanonical(got) {
		t.Fatalf("%s: %v is not canonical", what, got)
	}
	if valueOf(got).Cmp(want) != 0 {
		t.Fatalf("%s: got %v, want %v", what, valueOf(got), want)
	}
}

func wantInt(t *testing.T, what string, got api.Int, want int) {
	t.Helper()
	wantBig(t, what, got, big.NewInt(int64(want)))
}

func wantZero(t *testing.T, what string, l ...api.Int) {
	t.Helper()
	for _, x := range l {
		if x.Neg || len(x.Mag) != 0 {
			t.Fatalf("%s: got %v, want the zero value", what, x)
		}
	}
}

func copied(x api.Int) api.Int {
	return api.Int{Neg: x.Neg, Mag: slices.Clone(x.Mag)}
}

func same(x, y api.Int) bool {
	return x.Neg == y.Neg && slices.Equal(x.Mag, y.Mag)
}

// sequence is a fixed sequence of words.
type sequence uint64

func (s *sequence) next() uint32 {
	*s = *s*6364136223846793005 + 1442695040888963407
	return uint32(*s >> 32)
}

// edges are words at which carries, borrows and estimates go wrong first.
var edges = [8]uint32{0, 1, 2, 1<<31 - 1, 1 << 31, 1<<31 + 1, math.MaxUint32 - 1, math.MaxUint32}

func (s *sequence) word() uint32 {
	if s.next()%3 == 0 {
		return edges[s.next()%8]
	}
	return s.next()
}

func (s *sequence) integer(length int) api.Int {
	x := api.Int{Neg: s.next()%2 == 0}
	for range length {
		x.Mag = append(x.Mag, s.word())
	}
	return x
}

// samples are integers of several lengths, not only canonical ones.
func samples() []api.Int {
	l := []api.Int{{}, {Neg: true}, {Mag: []uint32{}}, literal(false, 0), literal(true, 0, 0, 0), literal(true, 7, 0), literal(false, 0, 1, 0, 0)}
	for _, n := range []int{1, 2, 3, 7, 10, 255, 1e9 - 1, 1e9, 1 << 31, 1<<32 - 1, 1 << 32, 1<<53 + 1, 1e18, math.MaxInt} {
		l = append(l, integer.Of(n), integer.Of(-n))
	}
	l = append(l, integer.Of(math.MinInt), literal(false, 0, 1<<31), literal(true, 1, 1<<31), literal(true, 0, 0, 1))
	for n := 1; n <= 5; n++ {
		ones, power := make([]uint32, n), make([]uint32, n+1)
		for i := range ones {
			ones[i] = math.MaxUint32
		}
		power[n] = 1
		l = append(l, literal(n%2 == 0, ones...), literal(n%2 == 1, power...))
	}
	s := sequence(1)
	for n := 1; n <= 24; n++ {
		l = append(l, s.integer(n), s.integer(n))
	}
	return append(l, s.integer(60), s.integer(61))
}
