package heading_test

import (
	"math"
	"math/big"
	"testing"

	"wayfinder/api"
	"wayfinder/heading"
)

// P4.1

func TestDir(t *testing.T) {
	for h := range 256 {
		for _, n := range far {
			wantDirection(t, "Dir", heading.Dir(h+256*n), compass(h))
		}
	}
	for h, want := range map[int]api.Vector{
		0: vector(1, 0, 1), 1: vector(4095, 128, 4097), 2: vector(1023, 64, 1025), 32: vector(3, 4, 5), 63: vector(127, 8064, 8065),
		64: vector(0, 1, 1), 96: vector(-4, 3, 5), 128: vector(-1, 0, 1), 160: vector(-3, -4, 5), 192: vector(0, -1, 1), 224: vector(4, -3, 5),
		-1: vector(8064, -127, 8065), 256: vector(1, 0, 1), -32: vector(4, -3, 5),
		// These are 0 and 255 modulo 256.
		math.MinInt: vector(1, 0, 1), math.MaxInt: vector(8064, -127, 8065),
	} {
		if got := heading.Dir(h); got != want {
			t.Errorf("Dir(%d) is %v, not %v", h, got, want)
		}
	}
}

func TestValid(t *testing.T) {
	for _, v := range samples() {
		if !heading.Valid(v) {
			t.Errorf("%v is valid", v)
		}
	}
	for _, v := range invalid() {
		if heading.Valid(v) {
			t.Errorf("%v is not valid", v)
		}
	}
	for x := -30; x <= 30; x++ {
		for y := -30; y <= 30; y++ {
			for d := -2; d <= 30; d++ {
				if v := vector(x, y, d); heading.Valid(v) != isValid(v) {
					t.Errorf("Valid(%v) is %t", v, heading.Valid(v))
				}
			}
		}
	}
}

func TestNorm(t *testing.T) {
	for _, v := range samples() {
		got, e := heading.Norm(v)
		if e != api.OK {
			t.Fatalf("Norm(%v): the error %d", v, e)
		}
		wantDirection(t, "Norm", got, exact(v))
	}
	for v, want := range map[api.Vector]api.Vector{
		vector(6, 8, 10): vector(3, 4, 5), vector(3, 4, 5): vector(3, 4, 5), vector(-9, 0, 9): vector(-1, 0, 1), vector(0, -1<<26, 1<<26): vector(0, -1, 1),
		vector(-12, -16, 20): vector(-3, -4, 5),
	} {
		if got, _ := heading.Norm(v); got != want {
			t.Errorf("Norm(%v) is %v", v, got)
		}
	}
	for _, v := range invalid() {
		if got, e := heading.Norm(v); e != api.ErrArg || got != vector(0, 0, 0) {
			t.Errorf("Norm(%v) is %v with the error %d", v, got, e)
		}
	}
}

func TestTurn(t *testing.T) {
	most := big.NewInt(1 << 26)
	turned, tooLong := 0, 0
	for _, a := range samples() {
		for _, b := range samples() {
			got, e := heading.Turn(a, b)
			want := exact(a).times(exact(b))
			if want.length().Cmp(most) > 0 {
				tooLong++
				if e != api.ErrRange || got != vector(0, 0, 0) {
					t.Fatalf("Turn(%v, %v) is %v with the error %d", a, b, got, e)
				}
				continue
			}
			turned++
			if e != api.OK {
				t.Fatalf("Turn(%v, %v): the error %d", a, b, e)
			}
			wantDirection(t, "Turn", got, want)
		}
	}
	if turned == 0 || tooLong == 0 {
		t.Errorf("%d turns, and %d that are too long", turned, tooLong)
	}
}

func TestTurnLimits(t *testing.T) {
	ones, long := vector(1<<26, 0, 1<<26), vector(1740025, 511872, 1813753)
	for _, c := range []struct{ a, b, want api.Vector }{
		{vector(3, 4, 5), vector(3, 4, 5), vector(-7, 24, 25)},
		{vector(6, 8, 10), vector(6, -8, 10), vector(1, 0, 1)},
		{ones, ones, vector(1, 0, 1)},
		{long, vector(long.X, -long.Y, long.D), vector(1, 0, 1)},
		{long, ones, long},
		// The longest one in lowest terms: D is 2^26 - 3.
		{vector(35, 12, 37), long, vector(54758411, 38795820, 67108861)},
	} {
		if got, e := heading.Turn(c.a, c.b); e != api.OK || got != c.want {
			t.Errorf("Turn(%v, %v) is %v with the error %d", c.a, c.b, got, e)
		}
	}
	// D would be 2^26 + 1, and about 2^52.
	for _, c := range [][2]api.Vector{
		{vector(3, 4, 5), vector(13106555, 2891748, 13421773)},
		{vector(54758411, 38795820, 67108861), vector(54758411, 38795820, 67108861)},
	} {
		if got, e := heading.Turn(c[0], c[1]); e != api.ErrRange || got != vector(0, 0, 0) {
			t.Errorf("Turn(%v, %v) is %v with the error %d", c[0], c[1], got, e)
		}
	}
}

func TestTurnInvalid(t *testing.T) {
	for _, v := range invalid() {
		for _, w := range append(few(), v) {
			for _, c := range [][2]api.Vector{{v, w}, {w, v}} {
				if got, e := heading.Turn(c[0], c[1]); e != api.ErrArg || got != vector(0, 0, 0) {
					t.Fatalf("Turn(%v, %v) is %v with the error %d", c[0], c[1], got, e)
				}
			}
		}
	}
}

func TestCmp(t *testing.T) {
	for _, a := range samples() {
		for _, b := range samples() {
			if got, want := heading.Cmp(a, b), byAngle(a, b); got != want {
				t.Fatalf("Cmp(%v, %v) is %d, not %d", a, b, got, want)
			}
		}
	}
	for _, c := range []struct {
		a, b api.Vector
		want int
	}{
		{vector(3, 4, 5), vector(0, -1, 1), -1}, {vector(6, 8, 10), vector(3, 4, 5), 0}, {vector(1, 0, 1), vector(-1, 0, 1), -1},
		{vector(-1, 0, 1), vector(0, 1, 1), 1}, {vector(4, -3, 5), vector(1, 0, 1), 1}, {vector(0, -1, 1), vector(0, 1, 1), 1},
		{steep(8191, 1), steep(8191, -1), -1}, {steep(8191, 1), steep(8190, 1), -1},
	} {
		if got := heading.Cmp(c.a, c.b); got != c.want {
			t.Errorf("Cmp(%v, %v) is %d", c.a, c.b, got)
		}
	}
	for _, v := range invalid() {
		for _, w := range append(few(), v) {
			if heading.Cmp(v, w) != 0 || heading.Cmp(w, v) != 0 {
				t.Fatalf("Cmp of %v and %v", v, w)
			}
		}
	}
}

// wantFloor compares with a search through all marks.
func wantFloor(t *testing.T, v api.Vector) {
	t.Helper()
	want := 255
	for byAngle(heading.Dir(want), v) > 0 {
		want--
	}
	if got, e := heading.Floor(v); e != api.OK || got != want {
		t.Fatalf("Floor(%v) is %d with the error %d, not %d", v, got, e, want)
	}
}

func TestFloor(t *testing.T) {
	for _, v := range samples() {
		wantFloor(t, v)
	}
	// At each mark, and as closely as possible before and behind it.
	for k := 1; k < 64; k++ {
		for n := 80*k - 1; n <= 80*k+1; n++ {
			for _, v := range around(steep(64*80, n)) {
				wantFloor(t, v)
			}
		}
	}
	for v, want := range map[api.Vector]int{
		vector(4, 3, 5): 21, vector(1, 0, 1): 0, vector(7, 0, 7): 0, vector(0, 1, 1): 64, vector(-5, 0, 5): 128, vector(0, -1, 1): 192,
		vector(3, 4, 5): 32, vector(6, 8, 10): 32, vector(67043339, -2964780, 67108861): 253,
		// Close to 0 degrees, from above and from below.
		steep(8191, 1): 0, steep(8191, -1): 255,
	} {
		if got, e := heading.Floor(v); e != api.OK || got != want {
			t.Errorf("Floor(%v) is %d with the error %d", v, got, e)
		}
	}
	for h := range 256 {
		if got, e := heading.Floor(heading.Dir(h)); e != api.OK || got != h {
			t.Errorf("Floor(Dir(%d)) is %d with the error %d", h, got, e)
		}
	}
	for _, v := range invalid() {
		if got, e := heading.Floor(v); e != api.ErrArg || got != 0 {
			t.Errorf("Floor(%v) is %d with the error %d", v, got, e)
		}
	}
}

func TestBeam(t *testing.T) {
	for h := range 256 {
		for mark := range 256 {
			got := heading.Beam(h, mark)
			wantDirection(t, "Beam", got, compass(h).times(compass(mark)))
			turned, e := heading.Turn(heading.Dir(h), heading.Dir(mark))
			if e != api.OK || got != turned {
				t.Fatalf("Beam(%d, %d) is %v, Turn %v", h, mark, got, turned)
			}
		}
	}
	for _, n := range far {
		wantDirection(t, "Beam", heading.Beam(63+256*n, 191-256*n), compass(63).times(compass(191)))
	}
	// These are 0 and 255 modulo 256.
	wantDirection(t, "Beam", heading.Beam(math.MinInt, math.MaxInt), compass(255))
	if got := heading.Beam(32, 32); got != vector(-7, 24, 25) {
		t.Errorf("Beam(32, 32) is %v", got)
	}
}

func TestDelta(t *testing.T) {
	l := append([]int{1 << 40, -1<<40 + 77}, extremes...)
	for n := -300; n <= 300; n++ {
		l = append(l, n)
	}
	marks := big.NewInt(256)
	for _, a := range l {
		for _, b := range l {
			got := heading.Delta(a, b)
			rest := new(big.Int).Sub(big.NewInt(int64(b)), big.NewInt(int64(a)))
			rest.Sub(rest, big.NewInt(int64(got)))
			if got < -128 || got > 127 || rest.Mod(rest, marks).Sign() != 0 {
				t.Fatalf("Delta(%d, %d) is %d", a, b, got)
			}
		}
	}
	for c, want := range map[[2]int]int{{250, 3}: 9, {0, 128}: -128, {0, 127}: 127, {128, 0}: -128, {3, 250}: -9, {5, 5}: 0, {0, 129}: -127} {
		if got := heading.Delta(c[0], c[1]); got != want {
			t.Errorf("Delta(%d, %d) is %d", c[0], c[1], got)
		}
	}
}

// P4.2

func TestMarksRise(t *testing.T) {
	for h := range 256 {
		v := heading.Dir(h)
		if h > 0 && (byAngle(heading.Dir(h-1), v) != -1 || heading.Cmp(heading.Dir(h-1), v) != -1) {
			t.Errorf("the angle of the mark %d does not rise", h)
		}
		if heading.Dir(h+64) != vector(-v.Y, v.X, v.D) {
			t.Errorf("Dir(%d) is not Dir(%d), turned by a quarter turn", h+64, h)
		}
	}
}

// P4.3

func TestTurnInAnyOrder(t *testing.T) {
	turn := func(a, b api.Vector, e api.Errno) (api.Vector, api.Errno) {
		v, f := heading.Turn(a, b)
		return v, max(e, f)
	}
	for _, a := range few() {
		for _, b := range few() {
			ab, e := heading.Turn(a, b)
			if ba, f := heading.Turn(b, a); ab != ba || e != f {
				t.Fatalf("the order of %v and %v", a, b)
			}
			for _, c := range few() {
				bc, f := heading.Turn(b, c)
				left, e := turn(ab, c, e)
				right, f := turn(a, bc, f)
				if e == api.OK && f == api.OK && left != right {
					t.Fatalf("the order of %v, %v and %v", a, b, c)
				}
			}
		}
	}
}

// P4.4

func TestCmpIsTotalOrder(t *testing.T) {
	for _, a := range samples() {
		for _, b := range samples() {
			c := heading.Cmp(a, b)
			if c != -heading.Cmp(b, a) {
				t.Fatalf("Cmp of %v and %v, and the other way round", a, b)
			}
			p, _ := heading.Norm(a)
			q, _ := heading.Norm(b)
			if (c == 0) != (p == q) {
				t.Fatalf("Cmp(%v, %v) is %d", a, b, c)
			}
		}
	}
	for _, a := range few() {
		for _, b := range few() {
			for _, c := range few() {
				if heading.Cmp(a, b) <= 0 && heading.Cmp(b, c) <= 0 && heading.Cmp(a, c) > 0 {
					t.Fatalf("Cmp of %v, %v and %v", a, b, c)
				}
			}
		}
	}
}

func TestFloorIsBetweenMarks(t *testing.T) {
	for h := range 256 {
		for mark := range 256 {
			v := heading.Beam(h, mark)
			got, e := heading.Floor(v)
			if e != api.OK || heading.Cmp(heading.Dir(got), v) > 0 {
				t.Fatalf("Floor(%v) is %d with the error %d", v, got, e)
			}
			if got < 255 && heading.Cmp(heading.Dir(got+1), v) <= 0 {
				t.Fatalf("Floor(%v) is %d, and not the greatest", v, got)
			}
		}
	}
}
