package paint_test

import (
	"fmt"
	"math"
	"math/rand"
	"slices"
	"strings"
	"testing"

	"casement/api"
	"casement/glyph"
	"casement/paint"
)

// Some runes of width 2 and 0.
const (
	wide   = '中'
	accent = 0x301
)

var zero = api.Style{}

func at(x, y, w, h int) api.Rect { return api.Rect{X: x, Y: y, W: w, H: h} }

func cell(r rune, s api.Style) api.Cell { return api.Cell{Rune: r, Style: s} }

// rows are rows of text; ~ is the rune 0.
func rows(s api.Style, lines ...string) (list [][]api.Cell) {
	for _, line := range lines {
		var row []api.Cell
		for _, r := range line {
			if r == '~' {
				r = 0
			}
			row = append(row, cell(r, s))
		}
		list = append(list, row)
	}
	return list
}

// pane has a text of the zero style.
func pane(r api.Rect, z int, lines ...string) paint.Pane {
	return paint.Pane{Rect: r, Z: z, Rows: rows(zero, lines...)}
}

func title(r api.Rect, name string) paint.Pane { return paint.Pane{Rect: r, Title: true, Name: name} }

func pick[T any](rnd *rand.Rand, of ...T) T { return of[rnd.Intn(len(of))] }

// spoil writes over a list and its spare room.
func spoil[T any](list []T, v T) {
	list = list[:cap(list)]
	for i := range list {
		list[i] = v
	}
}

// spoilRows writes over rows, and over the list of them.
func spoilRows(list [][]api.Cell) {
	for _, row := range list {
		spoil(row, cell(7, api.Style{Fg: -7}))
	}
	spoil(list, nil)
}

// wrongStyles are styles that aren't right.
func wrongStyles() []api.Style {
	return []api.Style{{Fg: -1}, {Fg: 257}, {Fg: api.Rgb - 1}, {Fg: 2 * api.Rgb}, {Bg: -1}, {Bg: 257}, {Bg: math.MaxInt}, {Attr: -1}, {Attr: 32}, {Attr: math.MinInt}}
}

// rightStyles are styles that are right.
func rightStyles() []api.Style {
	return []api.Style{{}, {Fg: 1}, {Fg: 256}, {Bg: api.Rgb}, {Bg: 2*api.Rgb - 1, Fg: 16}, {Attr: 31}, {Attr: api.Inverse}, {Fg: 3, Bg: 4, Attr: 5}}
}

// rightStyle is what the document says of a style.
func rightStyle(s api.Style) bool {
	colour := func(c int) bool { return c == 0 || c >= 1 && c <= 256 || c >= 1<<24 && c <= 1<<24+1<<24-1 }
	return colour(s.Fg) && colour(s.Bg) && s.Attr >= 0 && s.Attr < 32
}

// text is a screen's runes, row by row; ~ is the rune 0.
func text(s paint.Screen) string {
	var out strings.Builder
	for _, row := range s.Rows {
		for _, c := range row {
			if c.Rune == 0 {
				c.Rune = '~'
			}
			out.WriteRune(c.Rune)
		}
		out.WriteByte('|')
	}
	return out.String()
}

// copied shares nothing with a screen.
func copied(s paint.Screen) paint.Screen {
	s.Rows = copiedRows(s.Rows)
	return s
}

func copiedRows(list [][]api.Cell) (rows [][]api.Cell) {
	for _, row := range list {
		rows = append(rows, slices.Clone(row))
	}
	return rows
}

func copiedPanes(list []paint.Pane) (panes []paint.Pane) {
	for _, p := range list {
		p.Rows = copiedRows(p.Rows)
		panes = append(panes, p)
	}
	return panes
}

// clamp is the number, but at least lo and at most hi.
func clamp(n, lo, hi int) int { return max(lo, min(n, hi)) }

// cleaned is what the document says of a rectangle that is handed in.
func cleaned(r api.Rect) api.Rect {
	r.X, r.Y = clamp(r.X, -5000, 5000), clamp(r.Y, -5000, 5000)
	r.W, r.H = clamp(r.W, 0, min(200, 5000-r.X)), clamp(r.H, 0, min(200, 5000-r.Y))
	if r.W == 0 || r.H == 0 {
		return api.Rect{}
	}
	return r
}

// inside tells whether a clean rectangle has a cell.
func inside(r api.Rect, x, y int) bool {
	return x >= r.X && x-r.X < r.W && y >= r.Y && y-r.Y < r.H
}

// model paints cell by cell: of each one it looks for the last pane that has it.
type model struct {
	w, h int
	list []paint.Pane // those that count, in the order in which they are painted
}

func modelOf(w, h int, panes []paint.Pane) *model {
	m := &model{w: clamp(w, 1, 200), h: clamp(h, 1, 200)}
	for i, p := range panes {
		if i == 24 {
			break
		}
		p.Rect = cleaned(p.Rect)
		to := len(m.list)
		for to > 0 && m.list[to-1].Z > p.Z {
			to--
		}
		m.list = slices.Insert(m.list, to, p)
	}
	return m
}

// last is the place of the last pane that has a cell; -1: none has it.
func (m *model) last(x, y int) int {
	for i := len(m.list) - 1; i >= 0; i-- {
		if inside(m.list[i].Rect, x, y) {
			return i
		}
	}
	return -1
}

// line is the row of a title.
func line(name string, w int) string {
	out, room := " ", w-2
	for _, r := range name { // like layer 1, it reads a byte with which no rune begins as U+FFFD
		n := glyph.Width(r)
		if n > room {
			break
		}
		room -= n
		if n > 0 {
			out += string(r)
		}
		if n == 2 {
			out += "~"
		}
	}
	return out + strings.Repeat(" ", w)
}

// raw is a screen's cell before its row is mended.
func (m *model) raw(x, y int) api.Cell {
	i := m.last(x, y)
	if i < 0 {
		return cell(32, zero)
	}
	p := m.list[i]
	list := p.Rows
	if p.Title {
		list = rows(api.Style{Attr: 16}, line(p.Name, p.Rect.W))
	}
	x, y = x-p.Rect.X, y-p.Rect.Y
	if y >= len(list) || x >= len(list[y]) {
		return cell(32, zero)
	}
	c := list[y][x]
	if !rightStyle(c.Style) || c.Rune != 0 && glyph.Width(c.Rune) == 0 {
		return cell(32, zero)
	}
	return c
}

// cell is a screen's cell.
func (m *model) cell(x, y int) api.Cell {
	c := m.raw(x, y)
	switch {
	case c.Rune == 0:
		if x > 0 {
			if left := m.raw(x-1, y); glyph.Width(left.Rune) == 2 {
				return cell(0, left.Style)
			}
		}
		return cell(32, c.Style)
	case glyph.Width(c.Rune) == 2 && (x == m.w-1 || m.raw(x+1, y).Rune != 0):
		return cell(32, c.Style)
	}
	return c
}

func (m *model) screen() paint.Screen {
	s := paint.Screen{W: m.w, H: m.h}
	for y := range m.h {
		var row []api.Cell
		for x := range m.w {
			row = append(row, m.cell(x, y))
		}
		s.Rows = append(s.Rows, row)
	}
	for i, p := range m.list {
		if !p.Focus || p.Title {
			continue
		}
		s.X, s.Y, s.Shown = 0, 0, false
		if p.Shown && p.X >= 0 && p.X < p.Rect.W && p.Y >= 0 && p.Y < p.Rect.H {
			x, y := p.Rect.X+p.X, p.Rect.Y+p.Y
			if inside(at(0, 0, m.w, m.h), x, y) && m.last(x, y) == i {
				s.X, s.Y, s.Shown = x, y, true
			}
		}
	}
	return s
}

// right is what the document says of a screen.
func right(s paint.Screen) bool {
	if s.W < 1 || s.W > 200 || s.H < 1 || s.H > 200 || len(s.Rows) != s.H || s.X < 0 || s.X >= s.W || s.Y < 0 || s.Y >= s.H {
		return false
	}
	for _, row := range s.Rows {
		if len(row) != s.W {
			return false
		}
		for x := 0; x < len(row); x++ {
			n := glyph.Width(row[x].Rune)
			if n == 0 || !rightStyle(row[x].Style) {
				return false
			}
			if n == 2 {
				x++
				if x == len(row) || row[x] != cell(0, row[x-1].Style) {
					return false
				}
			}
		}
	}
	return true
}

// differ tells in what screens differ, in all that a screen has.
func differ(a, b paint.Screen) string {
	if a.W != b.W || a.H != b.H || a.X != b.X || a.Y != b.Y || a.Shown != b.Shown || len(a.Rows) != len(b.Rows) {
		return fmt.Sprintf("%d x %d, %d, %d, %v, %d rows; %d x %d, %d, %d, %v, %d rows", a.W, a.H, a.X, a.Y, a.Shown, len(a.Rows), b.W, b.H, b.X, b.Y, b.Shown, len(b.Rows))
	}
	for y := range a.Rows {
		if !slices.Equal(a.Rows[y], b.Rows[y]) {
			return fmt.Sprintf("row %d: %v; %v", y, a.Rows[y], b.Rows[y])
		}
	}
	return ""
}

// paints holds Paint to its model.
func paints(t *testing.T, w, h int, panes []paint.Pane) paint.Screen {
	t.Helper()
	s := paint.Paint(w, h, panes)
	if d := differ(s, modelOf(w, h, panes).screen()); d != "" {
		t.Fatalf("Paint(%d, %d, %+v): %s", w, h, panes, d)
	}
	return s
}

// someCell is mostly one that can be shown.
func someCell(rnd *rand.Rand) api.Cell {
	s := pick(rnd, rightStyles()...)
	if rnd.Intn(20) == 0 {
		s = pick(rnd, wrongStyles()...)
	}
	return cell(pick[rune](rnd, 'a', 'b', 32, wide, wide, 0, 0, 0xff01, 'z', pick[rune](rnd, 7, accent, 27, -1, 0x110000, 0xd800, 0x9f, 0x10ffff, 0x3fffd)), s)
}

// someRows are about so many, of about so many cells.
func someRows(rnd *rand.Rand, w, h int) (list [][]api.Cell) {
	for range rnd.Intn(h + 3) {
		var row []api.Cell
		for range rnd.Intn(w + 3) {
			c := someCell(rnd)
			row = append(row, c)
			if glyph.Width(c.Rune) == 2 && rnd.Intn(4) > 0 {
				row = append(row, cell(0, c.Style))
			}
		}
		list = append(list, row)
	}
	return list
}

// somePane lies mostly on a small screen.
func somePane(rnd *rand.Rand) paint.Pane {
	one := func(n int) int { return pick(rnd, rnd.Intn(n), rnd.Intn(n), rnd.Intn(n), rnd.Intn(n), rnd.Intn(20)-9) }
	p := paint.Pane{Rect: at(one(7), one(4), 1+one(9), 1+one(5)), Z: rnd.Intn(4) - 1}
	p.X, p.Y = pick(rnd, rnd.Intn(max(1, p.Rect.W)), one(6)), pick(rnd, rnd.Intn(max(1, p.Rect.H)), one(4))
	p.Title, p.Focus, p.Shown = rnd.Intn(5) == 0, rnd.Intn(3) == 0, rnd.Intn(4) > 0
	p.Name = pick(rnd, "", "a", "pane 12", "a中b中c", "\xff\xe4\xb8中", "\x1b[0m\u0301é", "中中中中中中")
	p.Rows = someRows(rnd, max(0, p.Rect.W), max(0, p.Rect.H))
	return p
}

func somePanes(rnd *rand.Rand) (list []paint.Pane) {
	for range pick(rnd, rnd.Intn(4), rnd.Intn(4), rnd.Intn(8), rnd.Intn(30)) {
		list = append(list, somePane(rnd))
	}
	return list
}
