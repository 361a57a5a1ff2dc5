package integer

import (
	"cmp"
	"math/bits"
)

// A magnitude is an integer that is not negative: words of 32 bits, the lowest first, without leading zero words.
// The functions of this package other than the exported ones take and return magnitudes, and change none that they take.

// wordBits is the number of binary digits of a word.
const wordBits = 32

// trim leaves out leading zero words.
func trim(w []uint32) []uint32 {
	n := len(w)
	for n > 0 && w[n-1] == 0 {
		n--
	}
	return w[:n]
}

// words returns the magnitude n.
func words(n uint64) []uint32 {
	return trim([]uint32{uint32(n), uint32(n >> wordBits)})
}

// number returns the value of a magnitude of at most two words.
func number(w []uint32) uint64 {
	n := uint64(0)
	for i, x := range w {
		n |= uint64(x) << (wordBits * i)
	}
	return n
}

// length returns the number of binary digits.
func length(w []uint32) int {
	if len(w) == 0 {
		return 0
	}
	last := len(w) - 1
	return wordBits*last + bits.Len32(w[last])
}

// compare returns -1, 0 or 1 for a < b, a = b, a > b.
func compare(a, b []uint32) int {
	if len(a) != len(b) {
		return cmp.Compare(len(a), len(b))
	}
	for i := len(a) - 1; i >= 0; i-- {
		if a[i] != b[i] {
			return cmp.Compare(a[i], b[i])
		}
	}
	return 0
}

// sum returns a + b.
func sum(a, b []uint32) []uint32 {
	if len(a) < len(b) {
		a, b = b, a
	}
	w := make([]uint32, len(a)+1)
	carry := uint64(0)
	for i, x := range a {
		carry += uint64(x)
		if i < len(b) {
			carry += uint64(b[i])
		}
		w[i] = uint32(carry)
		carry >>= wordBits
	}
	w[len(a)] = uint32(carry)
	return trim(w)
}

// difference returns a - b, where b is at most a.
func difference(a, b []uint32) []uint32 {
	w := make([]uint32, len(a))
	carry := int64(0)
	for i, x := range a {
		carry += int64(x)
		if i < len(b) {
			carry -= int64(b[i])
		}
		w[i] = uint32(carry)
		carry >>= wordBits
	}
	return trim(w)
}

// product returns a times b.
func product(a, b []uint32) []uint32 {
	w := make([]uint32, len(a)+len(b))
	for i, x := range a {
		carry := uint64(0)
		for j, y := range b {
			// A product of two words and two more words just fit into 64 bits.
			carry += uint64(x)*uint64(y) + uint64(w[i+j])
			w[i+j] = uint32(carry)
			carry >>= wordBits
		}
		w[i+len(b)] = uint32(carry)
	}
	return trim(w)
}

// raise returns w * 2^n.
func raise(w []uint32, n int) []uint32 {
	whole, part := n/wordBits, n%wordBits
	v := make([]uint32, len(w)+whole+1)
	carry := uint64(0)
	for i, x := range w {
		carry |= uint64(x) << part
		v[i+whole] = uint32(carry)
		carry >>= wordBits
	}
	v[len(w)+whole] = uint32(carry)
	return trim(v)
}

// lower returns floor(w / 2^n).
func lower(w []uint32, n int) []uint32 {
	whole, part := n/wordBits, n%wordBits
	if whole >= len(w) {
		return nil
	}
	v := make([]uint32, len(w)-whole)
	carry := uint64(0)
	for i := len(v) - 1; i >= 0; i-- {
		carry = carry<<wordBits | uint64(w[i+whole])
		v[i] = uint32(carry >> part)
	}
	return trim(v)
}
