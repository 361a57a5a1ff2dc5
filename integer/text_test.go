package integer_test

import (
	"math/big"
	"strings"
	"testing"

	"wayfinder/api"
	"wayfinder/integer"
)

// P1.6

func TestText(t *testing.T) {
	for _, x := range samples() {
		if got, want := integer.Text(x), valueOf(x).String(); got != want {
			t.Errorf("Text is %s, not %s", got, want)
		}
	}
	// Zeros inside and at the end.
	for _, s := range []string{"0", "-1", "10", "1000000000", "-1000000001", "999999999", "1000000000000000000", "5000000000000000007", "-4294967296", "100000000000000000000000000000000000001"} {
		v, _ := new(big.Int).SetString(s, 10)
		if got := integer.Text(fromBig(v)); got != s {
			t.Errorf("Text is %s, not %s", got, s)
		}
	}
	for _, zero := range []api.Int{{}, {Neg: true}, literal(true, 0, 0)} {
		if got := integer.Text(zero); got != "0" {
			t.Errorf("Text(0) is %q", got)
		}
	}
}

func TestTextOfLongInteger(t *testing.T) {
	s := sequence(6)
	x := s.integer(1000)
	if integer.Text(x) != valueOf(x).String() {
		t.Error("a text of more than 9000 digits")
	}
}

func TestParse(t *testing.T) {
	for _, s := range []string{"0", "1", "-1", "9", "10", "-10", "1000000000", "4294967295", "4294967296", "-4294967296", "18446744073709551616", "100000000000000000000000000000000000000000"} {
		x, e := integer.Parse(s)
		if e != api.OK {
			t.Errorf("Parse(%q) has the error %d", s, e)
		}
		want, _ := new(big.Int).SetString(s, 10)
		wantBig(t, s, x, want)
	}
}

func TestParseForm(t *testing.T) {
	bad := []string{"", "-", "-0", "00", "-00", "01", "-01", "007", "+1", "+0", " 1", "1 ", "- 1", "--1", "1-", "-1-", "1-2", "\n1", "1\n", "x", "0x10", "1e3", "1.0", "1_000", "1,000", "/", ":", "1/", "1:", "1\x00", "\x00", "\u0661", "\u2212" + "1", "\uff11", "1\xff", "ten"}
	for _, s := range bad {
		x, e := integer.Parse(s)
		if e != api.ErrForm {
			t.Errorf("Parse(%q) has the error %d", s, e)
		}
		wantZero(t, s, x)
	}
}

func TestParseLength(t *testing.T) {
	for _, s := range []string{strings.Repeat("9", 2000), "-" + strings.Repeat("7", 1999), "1" + strings.Repeat("0", 1999)} {
		x, e := integer.Parse(s)
		if e != api.OK || integer.Text(x) != s {
			t.Errorf("%d bytes have the error %d", len(s), e)
		}
	}
	// The length is checked first.
	for _, s := range []string{strings.Repeat("9", 2001), "-" + strings.Repeat("7", 2000), strings.Repeat("0", 2001), strings.Repeat("x", 5000)} {
		x, e := integer.Parse(s)
		if e != api.ErrFull {
			t.Errorf("%d bytes have the error %d", len(s), e)
		}
		wantZero(t, "Parse", x)
	}
	if _, e := integer.Parse(strings.Repeat("9", 1999) + "x"); e != api.ErrForm {
		t.Error(e)
	}
}

// P1.7

func TestParseInvertsText(t *testing.T) {
	l := samples()
	s := sequence(7)
	for range 50 {
		// 207 words have at most 1994 digits.
		l = append(l, s.integer(207))
	}
	for _, x := range l {
		text := integer.Text(x)
		y, e := integer.Parse(text)
		if e != api.OK || !same(y, integer.Norm(x)) {
			t.Fatalf("Parse(%s) is %v with the error %d", text, y, e)
		}
	}
}
