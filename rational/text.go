package rational

import (
	"strings"

	"wayfinder/api"
	"wayfinder/integer"
)

const (
	// maxText is the greatest length of a text that Parse takes.
	maxText = 4000
	// maxPart is the greatest length of what is in front of a slash or behind it.
	maxPart = 2000
)

// Text returns the text of x: that of an integer, or two of them with a slash between them.
func Text(x Rational) string {
	c := Norm(x)
	if isOne(c.Den) {
		return integer.Text(c.Num)
	}
	return integer.Text(c.Num) + "/" + integer.Text(c.Den)
}

func isOne(x Int) bool {
	return integer.Cmp(x, integer.Of(1)) == 0
}

// Parse returns the number with the text s; ErrFull if s or a part of it is too long; ErrForm if there is none.
func Parse(s string) (Rational, Errno) {
	front, behind, slash := strings.Cut(s, "/")
	if len(s) > maxText || len(front) > maxPart || len(behind) > maxPart {
		return Rational{}, api.ErrFull
	}
	n, e := integer.Parse(front)
	if e != api.OK {
		return Rational{}, api.ErrForm
	}
	d := integer.Of(1)
	if slash {
		d, e = integer.Parse(behind)
		if e != api.OK || !canStand(n, d) {
			return Rational{}, api.ErrForm
		}
	}
	return Rational{Num: n, Den: d}, api.OK
}

// canStand reports whether n/d is the text of a number: one that is no integer, in lowest terms.
func canStand(n, d Int) bool {
	return integer.Cmp(d, integer.Of(1)) > 0 && isOne(integer.Gcd(n, d))
}
