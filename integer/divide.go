package integer

import (
	"math/bits"
	"slices"
)

// divide returns the quotient and the remainder of a and b, where b is not 0.
func divide(a, b []uint32) (q, r []uint32) {
	switch {
	case compare(a, b) < 0:
		return nil, slices.Clone(a)
	case len(b) == 1:
		q = slices.Clone(a)
		rest := shorten(q, b[0])
		return trim(q), words(uint64(rest))
	}
	return divideLong(a, b)
}

// shorten divides w by d in place, and returns the remainder.
func shorten(w []uint32, d uint32) uint32 {
	rest := uint64(0)
	for i := len(w) - 1; i >= 0; i-- {
		rest = rest<<wordBits | uint64(w[i])
		w[i] = uint32(rest / uint64(d))
		rest %= uint64(d)
	}
	return uint32(rest)
}

// divideLong divides by at least two words, word by word from the top.
func divideLong(a, b []uint32) (q, r []uint32) {
	// With the highest bit of the divisor set, the estimates of the words of the quotient are at most 1 too great.
	shift := bits.LeadingZeros32(b[len(b)-1])
	d := raise(b, shift)
	rest := append(raise(a, shift), 0)
	q = make([]uint32, len(rest)-len(d))
	for i := len(q) - 1; i >= 0; i-- {
		q[i] = takeOff(rest[i:i+len(d)+1], d)
	}
	return trim(q), lower(trim(rest), shift)
}

// takeOff divides part, which has one word more than d and is less than d * 2^32, by d: it leaves the remainder there and returns the quotient.
func takeOff(part, d []uint32) uint32 {
	q := estimate(part, d)
	if subtractTimes(part, d, q) {
		q--
		addBack(part, d)
	}
	return q
}

// estimate returns the quotient of part and d, or one more, judged by their highest three and two words.
func estimate(part, d []uint32) uint32 {
	n := len(d)
	high := uint64(d[n-1])
	top := uint64(part[n])<<wordBits | uint64(part[n-1])
	q, r := top/high, top%high
	for r>>wordBits == 0 && (q>>wordBits != 0 || q*uint64(d[n-2]) > r<<wordBits|uint64(part[n-2])) {
		q--
		r += high
	}
	return uint32(q)
}

// subtractTimes subtracts d * q from part, modulo the power of 2 that part has room for, and reports whether that was more than part.
func subtractTimes(part, d []uint32, q uint32) bool {
	carry := uint64(0)
	for i, x := range d {
		carry += uint64(x) * uint64(q)
		left := uint64(part[i]) - uint64(uint32(carry))
		part[i] = uint32(left)
		carry = carry>>wordBits + left>>63
	}
	last := len(d)
	left := uint64(part[last]) - carry
	part[last] = uint32(left)
	return left>>63 != 0
}

// addBack adds d to part, modulo the power of 2 that part has room for.
func addBack(part, d []uint32) {
	carry := uint64(0)
	for i, x := range d {
		carry += uint64(part[i]) + uint64(x)
		part[i] = uint32(carry)
		carry >>= wordBits
	}
	part[len(d)] += uint32(carry)
}
