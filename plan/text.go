package plan

import (
	"strings"

	"wayfinder/api"
)

// letters has the byte of each value in a text.
const letters = "?.#"

// maxText is the number of bytes of the longest text.
const maxText = api.MaxSide * (api.MaxSide + 1)

// Text returns the text of p, a line for each row; "" if p is not valid.
func Text(p Plan) string {
	if !Valid(p) {
		return ""
	}
	var b strings.Builder
	for i, v := range p.Cells {
		b.WriteByte(letters[v])
		if (i+1)%p.W == 0 {
			b.WriteByte('\n')
		}
	}
	return b.String()
}

// Parse returns the plan with the text s; ErrFull if s is longer than any text, ErrForm if it is none.
func Parse(s string) (Plan, Errno) {
	if len(s) > maxText {
		return Plan{}, api.ErrFull
	}
	w := strings.IndexByte(s, '\n')
	if !isSize(w) || len(s)%(w+1) != 0 || !isSize(len(s)/(w+1)) {
		return Plan{}, api.ErrForm
	}
	p := Plan{W: w, H: len(s) / (w + 1)}
	for rest := s; rest != ""; rest = rest[w+1:] {
		row, ok := values(rest[:w])
		if !ok || rest[w] != '\n' {
			return Plan{}, api.ErrForm
		}
		p.Cells = append(p.Cells, row...)
	}
	return p, api.OK
}

// values returns the values that the bytes of a line stand for; false if one of them stands for none.
func values(line string) ([]byte, bool) {
	row := make([]byte, len(line))
	for i := range row {
		v := strings.IndexByte(letters, line[i])
		if v < 0 {
			return nil, false
		}
		row[i] = byte(v)
	}
	return row, true
}
