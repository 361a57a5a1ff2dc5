package plan_test

import (
	"slices"
	"testing"

	"wayfinder/api"
	"wayfinder/plan"
)

// samples are valid plans of several sizes.
func samples() []api.Plan {
	s := source(1)
	l := []api.Plan{planOf(1, 1, 0), planOf(1, 1, 1), planOf(1, 1, 2), planOf(2, 1, 1, 2), planOf(1, 2, 1, 2)}
	for _, n := range [][2]int{{3, 2}, {2, 3}, {7, 7}, {64, 1}, {1, 64}, {64, 64}, {63, 64}} {
		l = append(l, s.plan(n[0], n[1]))
	}
	return l
}

// P8.1
func TestNew(t *testing.T) {
	for _, n := range [][2]int{{1, 1}, {2, 1}, {1, 2}, {64, 1}, {1, 64}, {64, 64}, {5, 9}} {
		for value := range byte(3) {
			want := planOf(n[0], n[1])
			for range n[0] * n[1] {
				want.Cells = append(want.Cells, value)
			}
			got, e := plan.New(n[0], n[1], value)
			wantPlan(t, "New", got, e, want)
		}
		for _, value := range []byte{3, 4, 128, 255} {
			got, e := plan.New(n[0], n[1], value)
			wantNoPlan(t, "New of a value", got, e, api.ErrArg)
		}
	}
	for _, n := range append([]int{0, -1, 65, -64}, extremes...) {
		for _, value := range []byte{0, 2, 3} {
			got, e := plan.New(n, 1, value)
			wantNoPlan(t, "New of a width", got, e, api.ErrRange)
			got, e = plan.New(1, n, value)
			wantNoPlan(t, "New of a height", got, e, api.ErrRange)
			got, e = plan.New(n, n, value)
			wantNoPlan(t, "New of a size", got, e, api.ErrRange)
		}
	}
}

// P8.1
func TestValid(t *testing.T) {
	for _, p := range samples() {
		if !plan.Valid(p) {
			t.Errorf("Valid(%v) is false", p)
		}
	}
	for _, p := range badPlans() {
		if plan.Valid(p) {
			t.Errorf("Valid(%v) is true", p)
		}
	}
	for i := range 6 {
		p := planOf(3, 2, make([]byte, 6)...)
		p.Cells[i] = 3
		if plan.Valid(p) {
			t.Errorf("Valid(%v) is true", p)
		}
	}
}

// outsideOf are cells outside p, next to it and far off.
func outsideOf(p api.Plan) []api.Cell {
	l := []api.Cell{cell(-1, 0), cell(0, -1), cell(p.W, 0), cell(0, p.H), cell(p.W, p.H), cell(-1, -1), cell(p.W-1, p.H), cell(p.W, p.H-1), cell(-1, p.H-1), cell(p.W, -1), cell(-1, 1), cell(p.W+1, -1)}
	for _, n := range extremes {
		l = append(l, cell(n, 0), cell(0, n), cell(n, n), cell(n, -n))
	}
	return l
}

// P8.1
func TestAt(t *testing.T) {
	for _, p := range samples() {
		for i, v := range p.Cells {
			if got := plan.At(p, cell(i%p.W, i/p.W)); got != v {
				t.Errorf("At the cell %d of %d by %d: %d, not %d", i, p.W, p.H, got, v)
			}
		}
		for _, c := range outsideOf(p) {
			if got := plan.At(p, c); got != api.Wall {
				t.Errorf("At %v of %d by %d: %d", c, p.W, p.H, got)
			}
		}
	}
	for _, p := range badPlans() {
		for _, c := range []api.Cell{cell(0, 0), cell(-1, 0), cell(70, 70)} {
			if got := plan.At(p, c); got != 0 {
				t.Errorf("At %v of %v: %d", c, p, got)
			}
		}
	}
}

// P8.1, P8.2
func TestPut(t *testing.T) {
	for _, p := range samples() {
		step := 1 + len(p.Cells)/50
		for i := 0; i < len(p.Cells); i += step {
			for value := range byte(3) {
				want := clone(p)
				want.Cells[i] = value
				before := clone(p)
				got, e := plan.Put(p, cell(i%p.W, i/p.W), value)
				wantPlan(t, "Put", got, e, want)
				if !equal(p, before) {
					t.Errorf("Put changed its argument at %d", i)
				}
				if plan.At(got, cell(i%p.W, i/p.W)) != value {
					t.Errorf("At after Put at %d is not %d", i, value)
				}
			}
		}
	}
}

// P8.1
func TestPutErrors(t *testing.T) {
	for _, p := range badPlans() {
		for _, c := range []api.Cell{cell(0, 0), cell(-1, 0), cell(100, 100)} {
			got, e := plan.Put(p, c, 1)
			wantNoPlan(t, "Put of a bad plan", got, e, api.ErrArg)
		}
	}
	for _, p := range samples() {
		for _, value := range []byte{3, 4, 255} {
			for _, c := range []api.Cell{cell(0, 0), cell(-1, 0), cell(p.W, 0)} {
				got, e := plan.Put(p, c, value)
				wantNoPlan(t, "Put of a bad value", got, e, api.ErrArg)
			}
		}
		for _, c := range outsideOf(p) {
			got, e := plan.Put(p, c, 2)
			wantNoPlan(t, "Put outside", got, e, api.ErrNone)
		}
	}
}

// P8.1
func TestCount(t *testing.T) {
	for _, p := range samples() {
		var want [256]int
		for _, v := range p.Cells {
			want[v]++
		}
		for _, value := range []byte{0, 1, 2, 3, 128, 255} {
			if got := plan.Count(p, value); got != want[value] {
				t.Errorf("Count of %d: %d, not %d", value, got, want[value])
			}
		}
	}
	for _, p := range badPlans() {
		for _, value := range []byte{0, 1, 2, 3, 255} {
			if got := plan.Count(p, value); got != 0 {
				t.Errorf("Count(%v, %d) is %d", p, value, got)
			}
		}
	}
}

// merged is what two values of a cell tell together; false if they contradict one another.
func merged(a, b byte) (byte, bool) {
	return max(a, b), a == 0 || b == 0 || a == b
}

// P8.1
func TestMergeAndBelowOfOneCell(t *testing.T) {
	for a := range byte(3) {
		for b := range byte(3) {
			v, ok := merged(a, b)
			got, e := plan.Merge(planOf(1, 1, a), planOf(1, 1, b))
			if ok {
				wantPlan(t, "Merge", got, e, planOf(1, 1, v))
			} else {
				wantNoPlan(t, "Merge", got, e, api.ErrConflict)
			}
			if below := plan.Below(planOf(1, 1, a), planOf(1, 1, b)); below != (a == 0 || a == b) {
				t.Errorf("Below of %d and %d is %v", a, b, below)
			}
		}
	}
}

// relatives are plans that are known to agree with p or not: p with some cells made unknown, and one with a single cell changed.
func relatives(s *source, p api.Plan) []api.Plan {
	l := []api.Plan{clone(p)}
	for range 3 {
		q := clone(p)
		for i := range q.Cells {
			if s.next(0, 1) == 0 {
				q.Cells[i] = 0
			}
		}
		l = append(l, q)
	}
	for range 3 {
		q := clone(p)
		i := s.next(0, len(q.Cells)-1)
		q.Cells[i] = (q.Cells[i] + byte(s.next(1, 2))) % 3
		l = append(l, q)
	}
	return l
}

// P8.1, P8.5
func TestMerge(t *testing.T) {
	s := source(2)
	for _, p := range samples() {
		for _, a := range relatives(&s, p) {
			for _, b := range relatives(&s, p) {
				want, agree := clone(a), true
				for i := range a.Cells {
					v, ok := merged(a.Cells[i], b.Cells[i])
					want.Cells[i] = v
					agree = agree && ok
				}
				before, after := clone(a), clone(b)
				got, e := plan.Merge(a, b)
				back, f := plan.Merge(b, a)
				if !agree {
					wantNoPlan(t, "Merge", got, e, api.ErrConflict)
					wantNoPlan(t, "Merge", back, f, api.ErrConflict)
					continue
				}
				wantPlan(t, "Merge", got, e, want)
				wantPlan(t, "Merge", back, f, want)
				if !plan.Below(a, got) || !plan.Below(b, got) {
					t.Errorf("%v or %v is not below %v", a, b, got)
				}
				got.Cells[0]++
				back.Cells[0]++
				if !equal(a, before) || !equal(b, after) {
					t.Errorf("Merge changed its arguments or shares their memory")
				}
			}
		}
	}
}

// P8.1, P8.5
func TestBelow(t *testing.T) {
	s := source(3)
	for _, p := range samples() {
		for _, a := range relatives(&s, p) {
			for _, b := range relatives(&s, p) {
				want := true
				for i, v := range a.Cells {
					want = want && (v == 0 || v == b.Cells[i])
				}
				if got := plan.Below(a, b); got != want {
					t.Errorf("Below(%v, %v) is %v", a, b, got)
				}
			}
			if !plan.Below(a, a) {
				t.Errorf("%v is not below itself", a)
			}
		}
	}
}

// smallPlans are all plans of two cells side by side.
func smallPlans() []api.Plan {
	var l []api.Plan
	for i := range byte(9) {
		l = append(l, planOf(2, 1, i%3, i/3))
	}
	return l
}

// P8.5
func TestMergeIsTheLeastPlanAboveBoth(t *testing.T) {
	for _, a := range smallPlans() {
		for _, b := range smallPlans() {
			both, e := plan.Merge(a, b)
			above := 0
			for _, c := range smallPlans() {
				if plan.Below(a, b) && plan.Below(b, c) && !plan.Below(a, c) {
					t.Errorf("Below is not transitive for %v, %v and %v", a, b, c)
				}
				if !plan.Below(a, c) || !plan.Below(b, c) {
					continue
				}
				above++
				if e != api.OK || !plan.Below(both, c) {
					t.Errorf("%v and %v are below %v, but their merge %v, %v is not", a, b, c, both, e)
				}
			}
			if (above > 0) != (e == api.OK) {
				t.Errorf("%d plans are above %v and %v, but Merge has %v", above, a, b, e)
			}
		}
	}
}

// P8.5
func TestMergeOfThree(t *testing.T) {
	for _, a := range smallPlans() {
		for _, b := range smallPlans() {
			for _, c := range smallPlans() {
				ab, e := plan.Merge(a, b)
				bc, f := plan.Merge(b, c)
				if e != api.OK || f != api.OK {
					continue
				}
				first, e := plan.Merge(ab, c)
				second, f := plan.Merge(a, bc)
				if e != f || !equal(first, second) {
					t.Errorf("Merge of %v, %v and %v: %v, %v and %v, %v", a, b, c, first, e, second, f)
				}
			}
		}
	}
}

// P8.1
func TestMergeAndBelowErrors(t *testing.T) {
	var pairs [][2]api.Plan
	good := planOf(1, 1, 1)
	for _, p := range badPlans() {
		pairs = append(pairs, [2]api.Plan{p, good}, [2]api.Plan{good, p}, [2]api.Plan{p, p})
	}
	sizes := []api.Plan{planOf(1, 1, 0), planOf(2, 1, 0, 0), planOf(1, 2, 0, 0), planOf(2, 2, 0, 0, 0, 0), planOf(4, 1, 0, 0, 0, 0), planOf(1, 4, 0, 0, 0, 0), planOf(2, 3, 1, 1, 1, 1, 1, 1), planOf(3, 2, 2, 2, 2, 2, 2, 2)}
	for i, p := range sizes {
		for _, q := range sizes[:i] {
			pairs = append(pairs, [2]api.Plan{p, q}, [2]api.Plan{q, p})
		}
	}
	for _, l := range pairs {
		got, e := plan.Merge(l[0], l[1])
		wantNoPlan(t, "Merge", got, e, api.ErrArg)
		if plan.Below(l[0], l[1]) {
			t.Errorf("Below(%v, %v) is true", l[0], l[1])
		}
	}
}

// P8.1
func TestResultsShareNoMemory(t *testing.T) {
	p := planOf(2, 1, 0, 1)
	a, _ := plan.New(2, 1, 0)
	b, _ := plan.Put(p, cell(0, 0), 0)
	c, _ := plan.Merge(p, p)
	d, _ := plan.Parse("?.\n")
	for _, q := range []api.Plan{a, b, c, d} {
		q.Cells[0] = 2
	}
	f, _ := plan.New(2, 1, 0)
	g, _ := plan.Parse("?.\n")
	if !slices.Equal(p.Cells, []byte{0, 1}) || f.Cells[0] != 0 || g.Cells[0] != 0 {
		t.Errorf("a result shares memory: %v %v %v", p, f, g)
	}
}
