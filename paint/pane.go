package paint

import (
	"cmp"
	"slices"

	"casement/api"
	"casement/glyph"
	"casement/rect"
	"casement/sgr"
)

// Pane is what is to be painted.
type Pane struct {
	Rect         api.Rect
	Z            int
	Title, Focus bool
	Name         string
	Rows         [][]api.Cell
	X, Y         int
	Shown        bool
}

// Paint is the screen of panes.
func Paint(w, h int, panes []Pane) Screen {
	s := Blank(w, h)
	list := inOrder(panes)
	for _, p := range list {
		s.paint(p)
	}
	for _, row := range s.Rows {
		mend(row)
	}
	s.X, s.Y, s.Shown = cursor(s.area(), list)
	return s
}

// inOrder is the panes that count, as they are painted, with clean rectangles.
func inOrder(panes []Pane) []Pane {
	list := slices.Clone(panes[:min(len(panes), api.MaxPanes)])
	for i := range list {
		list[i].Rect = rect.Clean(list[i].Rect)
	}
	slices.SortStableFunc(list, func(a, b Pane) int { return cmp.Compare(a.Z, b.Z) })
	return list
}

// paint paints the cells of a pane that lie on the screen.
func (s Screen) paint(p Pane) {
	rows := p.rows()
	seen := rect.Meet(p.Rect, s.area())
	for y := range seen.H {
		line := s.Rows[seen.Y+y][seen.X : seen.X+seen.W]
		for x := range line {
			line[x] = cell(rows, seen.X-p.Rect.X+x, seen.Y-p.Rect.Y+y)
		}
	}
}

// rows is what a pane shows, from its rectangle's corner on.
func (p Pane) rows() [][]api.Cell {
	if p.Title {
		return [][]api.Cell{title(p.Name, p.Rect.W)}
	}
	return p.Rows
}

// cell is what rows show at a place: a blank, where they have no cell, or none that could be shown.
func cell(rows [][]api.Cell, x, y int) api.Cell {
	if y < len(rows) && x < len(rows[y]) {
		c := rows[y][x]
		if sgr.Right(c.Style) && (c.Rune == 0 || glyph.Width(c.Rune) > 0) {
			return c
		}
	}
	return api.Cell{Rune: space}
}

// title is a row of w cells that has a name.
func title(name string, w int) []api.Cell {
	rs := slices.DeleteFunc(glyph.Runes([]byte(name)), func(r rune) bool { return glyph.Width(r) == 0 })
	rs, _ = glyph.Cut(rs, w-2)
	row := []api.Cell{inverse(space)}
	for _, r := range rs {
		row = append(row, inverse(r))
		if glyph.Width(r) == 2 {
			row = append(row, inverse(0))
		}
	}
	for len(row) < w {
		row = append(row, inverse(space))
	}
	return row
}

// inverse is a cell of a title.
func inverse(r rune) api.Cell {
	return api.Cell{Rune: r, Style: api.Style{Attr: api.Inverse}}
}

// cursor is where the cursor of panes is, and whether it is shown: the last one with the focus alone has a say.
func cursor(area api.Rect, list []Pane) (int, int, bool) {
	for i, p := range slices.Backward(list) {
		if !p.Focus || p.Title {
			continue
		}
		x, y := rect.Sum(p.Rect.X, p.X), rect.Sum(p.Rect.Y, p.Y)
		has := func(q Pane) bool { return rect.Has(q.Rect, x, y) }
		if p.Shown && has(p) && rect.Has(area, x, y) && !slices.ContainsFunc(list[i+1:], has) {
			return x, y, true
		}
		break
	}
	return 0, 0, false
}
