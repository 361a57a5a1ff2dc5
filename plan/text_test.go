package plan_test

import (
	"strings"
	"testing"

	"wayfinder/api"
	"wayfinder/plan"
)

// textOf is the text of a plan by the chapter.
func textOf(p api.Plan) string {
	s := ""
	for y := range p.H {
		for x := range p.W {
			s += string("?.#"[p.Cells[y*p.W+x]])
		}
		s += "\n"
	}
	return s
}

// P8.1
func TestTextExamples(t *testing.T) {
	p, _ := plan.New(2, 1, api.Wall)
	if got := plan.Text(p); got != "##\n" {
		t.Errorf("Text of two walls is %q", got)
	}
	if got := plan.Text(planOf(3, 2, 0, 1, 2, 1, 1, 0)); got != "?.#\n..?\n" {
		t.Errorf("Text of 3 by 2 cells is %q", got)
	}
	got, e := plan.Parse("?.#\n..?\n")
	wantPlan(t, "Parse", got, e, planOf(3, 2, 0, 1, 2, 1, 1, 0))
}

// P8.1, P8.2
func TestTextAndParse(t *testing.T) {
	for _, p := range samples() {
		text := plan.Text(p)
		if text != textOf(p) {
			t.Errorf("Text of %v is %q", p, text)
		}
		got, e := plan.Parse(text)
		wantPlan(t, "Parse", got, e, p)
	}
	for _, p := range badPlans() {
		if got := plan.Text(p); got != "" {
			t.Errorf("Text of %v is %q", p, got)
		}
	}
}

// P8.1, P8.2: all short strings of some bytes, of which only the texts of plans are parsed.
func TestParseOfShortStrings(t *testing.T) {
	texts := map[string]bool{}
	for w := 1; w <= 4; w++ {
		for h := 1; h*(w+1) <= 5; h++ {
			p := planOf(w, h, make([]byte, w*h)...)
			for {
				texts[textOf(p)] = true
				i := 0
				for i < len(p.Cells) && p.Cells[i] == 2 {
					p.Cells[i] = 0
					i++
				}
				if i == len(p.Cells) {
					break
				}
				p.Cells[i]++
			}
		}
	}
	l := []string{""}
	for len(l[0]) <= 5 {
		var next []string
		for _, s := range l {
			p, e := plan.Parse(s)
			if texts[s] {
				if e != api.OK || plan.Text(p) != s {
					t.Errorf("Parse(%q) is %v, %v", s, p, e)
				}
			} else {
				wantNoPlan(t, "Parse of "+s, p, e, api.ErrForm)
			}
			for _, b := range "?.#\n\r " {
				next = append(next, s+string(b))
			}
		}
		l = next
	}
}

// P8.1
func TestParseErrors(t *testing.T) {
	row := strings.Repeat(".", 64) + "\n"
	whole := strings.Repeat(row, 64)
	for _, s := range []string{
		"", "\n", "\n\n", ".", "..", ".\n\n", "\n.\n", ".\n..\n", "..\n.\n", "..\n..", "..\n..\n.", "..\n.\n.", "...\n\n..\n", ".\r\n", "\x00\n", "\x01\n", "\x02\n", "0\n", " .\n", ".x\n", "é\n", "\xff\n",
		"." + row, strings.Repeat(".", 65) + "\n", strings.Repeat(".\n", 65), whole[:4159], whole[:4159] + ".", strings.Repeat("\n", 4160), strings.Repeat(".", 4160), strings.Repeat(".", 4159) + "\n", strings.Repeat(".\n", 2080),
		whole[:4000] + "x" + whole[4001:],
	} {
		got, e := plan.Parse(s)
		wantNoPlan(t, "Parse", got, e, api.ErrForm)
	}
	got, e := plan.Parse(whole)
	want, _ := plan.New(64, 64, api.Free)
	wantPlan(t, "Parse of the longest text", got, e, want)
	for _, s := range []string{whole + ".", whole + "\n", whole + row, strings.Repeat("\n", 4161), strings.Repeat("x", 5000)} {
		got, e := plan.Parse(s)
		wantNoPlan(t, "Parse of a long text", got, e, api.ErrFull)
	}
}
