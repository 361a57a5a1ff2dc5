package integer

import (
	"slices"
	"strconv"
	"strings"

	"wayfinder/api"
)

const (
	// maxText is the greatest length of a text that Parse takes.
	maxText = 2000
	// As many decimal digits fit into a word, and they have as many values.
	groupDigits = 9
	group       = 1_000_000_000
)

// Text returns the decimal form of x.
func Text(x Int) string {
	groups := decimalGroups(trim(x.Mag))
	if len(groups) == 0 {
		return "0"
	}
	var b strings.Builder
	if x.Neg {
		b.WriteByte('-')
	}
	last := len(groups) - 1
	b.WriteString(digits(groups[last]))
	for i := last - 1; i >= 0; i-- {
		s := digits(groups[i])
		b.WriteString(strings.Repeat("0", groupDigits-len(s)))
		b.WriteString(s)
	}
	return b.String()
}

func digits(n uint32) string {
	return strconv.FormatUint(uint64(n), 10)
}

// decimalGroups returns the digits of w to the base 10^9, the lowest first.
func decimalGroups(w []uint32) []uint32 {
	var groups []uint32
	rest := slices.Clone(w)
	for len(rest) > 0 {
		groups = append(groups, shorten(rest, group))
		rest = trim(rest)
	}
	return groups
}

// Parse returns the integer with the decimal form s; ErrFull if s is too long; ErrForm if there is none.
func Parse(s string) (Int, Errno) {
	if len(s) > maxText {
		return Int{}, api.ErrFull
	}
	d, negative := strings.CutPrefix(s, "-")
	if !decimal(d) || negative && d == "0" {
		return Int{}, api.ErrForm
	}
	return signed(negative, value(d)), api.OK
}

// decimal reports whether s consists of digits, without leading zeros.
func decimal(s string) bool {
	if s == "" || len(s) > 1 && s[0] == '0' {
		return false
	}
	for i := range len(s) {
		if s[i] < '0' || s[i] > '9' {
			return false
		}
	}
	return true
}

// value returns the magnitude that decimal digits stand for.
func value(s string) []uint32 {
	var w []uint32
	for i := range len(s) {
		w = appendDigit(w, uint32(s[i]-'0'))
	}
	return w
}

// appendDigit returns 10*w + digit, in the memory of w if it has room.
func appendDigit(w []uint32, digit uint32) []uint32 {
	carry := uint64(digit)
	for i, x := range w {
		carry += 10 * uint64(x)
		w[i] = uint32(carry)
		carry >>= wordBits
	}
	if carry == 0 {
		return w
	}
	return append(w, uint32(carry))
}
