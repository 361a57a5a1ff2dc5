package rational_test

import (
	"math/big"
	"strings"
	"testing"

	"wayfinder/api"
	"wayfinder/rational"
)

// P2.1

func TestText(t *testing.T) {
	for _, x := range samples() {
		if got, want := rational.Text(x), valueOf(x).RatString(); got != want {
			t.Errorf("Text(%v) is %s, not %s", x, got, want)
		}
	}
	for want, x := range map[string]api.Rational{"-3/2": over(6, -4), "2": over(4, 2), "0": {}, "-7": over(14, -2), "1/3": over(-3, -9)} {
		if got := rational.Text(x); got != want {
			t.Errorf("Text(%v) is %s", x, got)
		}
	}
	if got := rational.Text(over(4, 0)); got != "0" {
		t.Errorf("Text(4/0) is %s", got)
	}
}

func TestParse(t *testing.T) {
	for _, s := range []string{"0", "1", "-1", "10", "-4294967296", "1/2", "-1/2", "3/2", "-3/2", "5/6", "1/4294967296", "-18446744073709551616/3", "7/100000000000000000000000000000000000000000"} {
		x, e := rational.Parse(s)
		wantError(t, s, e, api.OK)
		want, _ := new(big.Rat).SetString(s)
		wantRat(t, s, x, want)
	}
}

func TestParseForm(t *testing.T) {
	bad := []string{
		// These are numbers, but none of these is the text of one.
		"2/4", "1/1", "-5/1", "+1", "0/3", "0/1", "-0", "-0/3", "6/3", "-6/4", "1/-2", "-1/-2", "01", "1/02", "01/2", "1/+2", "+1/2", "1.5", "1e2", " 1", "1 ", "1 /2", "1/ 2",
		"1000000000000000000000/3000000000000000000000", "12345678901234567890/2",
		// These are none.
		"", "/", "1/", "/2", "-", "-/2", "1/-", "1/0", "0/0", "1/00", "1//2", "1/2/3", "1/2/", "/1/2", "x", "1/x", "x/2", "1\\2", "1:2", "1/2\n", "\n1/2", "1/2\x00", "\u0661/2", "1\u22152", "\u2212" + "1/2",
	}
	for _, s := range bad {
		x, e := rational.Parse(s)
		wantError(t, s, e, api.ErrForm)
		wantNothing(t, s, x)
	}
}

func TestParseLength(t *testing.T) {
	nines, ones := strings.Repeat("9", 2000), strings.Repeat("9", 1998)+"7"
	good := []string{nines, "-" + nines[1:], "1/" + nines, nines + "/2", "-" + nines[1:] + "/2", nines + "/1" + strings.Repeat("0", 1998), ones + "/1" + strings.Repeat("0", 1999)}
	for _, s := range good {
		x, e := rational.Parse(s)
		wantError(t, "a long text", e, api.OK)
		want, _ := new(big.Rat).SetString(s)
		wantRat(t, "a long text", x, want)
		if rational.Text(x) != s {
			t.Error("the text of a long number")
		}
	}
	// The length is checked first, even if there is no number.
	full := []string{
		nines + "9", "-" + nines, nines + "9/2", "1/" + nines + "9", nines + "/" + nines, "/" + nines + "9", nines + "9/",
		strings.Repeat("x", 2001), strings.Repeat("/", 2002), strings.Repeat("x", 4001), strings.Repeat("1/2", 1400), nines + "/" + nines + "9", strings.Repeat("0", 10000),
	}
	for _, s := range full {
		x, e := rational.Parse(s)
		wantError(t, "a text that is too long", e, api.ErrFull)
		wantNothing(t, "a text that is too long", x)
	}
	for _, s := range []string{nines[1:] + "x", "/" + nines, nines + "/", strings.Repeat("/", 2001), nines + "/" + nines[1:], nines[1:] + "/" + strings.Repeat("0", 2000)} {
		x, e := rational.Parse(s)
		wantError(t, "a text that is not too long", e, api.ErrForm)
		wantNothing(t, "a text that is not too long", x)
	}
}

// P2.4

func TestParseInvertsText(t *testing.T) {
	l := samples()
	s := sequence(4)
	for range 30 {
		// 207 words have at most 1994 digits.
		l = append(l, s.rational(207))
	}
	for _, x := range l {
		text := rational.Text(x)
		y, e := rational.Parse(text)
		if e != api.OK || !same(y, rational.Norm(x)) {
			t.Fatalf("Parse(%s) is %v with the error %d", text, y, e)
		}
	}
}

func TestTextsDiffer(t *testing.T) {
	for _, a := range samples() {
		for _, b := range samples() {
			if (rational.Text(a) == rational.Text(b)) != (rational.Cmp(a, b) == 0) {
				t.Fatalf("the texts of %v and %v", a, b)
			}
		}
	}
}
