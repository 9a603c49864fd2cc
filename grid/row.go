package grid

import (
	"casement/api"
	"casement/glyph"
)

// space is a blank's rune.
const space = 32

// blank is a blank with a background.
func blank(bg int) api.Cell { return api.Cell{Rune: space, Style: api.Style{Bg: bg}} }

// row is the cells of a row. Its methods leave a row mended that was mended ahead of them: where cells become neighbours
// that were none, there alone a half of a wide rune can lose its other half.
type row []api.Cell

// newRow has w blanks.
func newRow(w int) row {
	r := make(row, w)
	r.fill(0, w, blank(0))
	return r
}

// newRows has h rows of w blanks.
func newRows(w, h int) []row {
	rows := make([]row, h)
	for y := range rows {
		rows[y] = newRow(w)
	}
	return rows
}

// wipe makes all cells of rows such ones.
func wipe(rows []row, c api.Cell) {
	for _, r := range rows {
		r.fill(0, len(r), c)
	}
}

// mend looks at the place between the cells ahead of x and at x: one that is a half without the other becomes a blank.
func (r row) mend(x int) {
	wide := x > 0 && glyph.Width(r[x-1].Rune) == 2
	second := x < len(r) && r[x].Rune == 0
	switch {
	case wide && !second:
		r[x-1].Rune = space
	case second && !wide:
		r[x].Rune = space
	}
}

// fill makes the cells from x on, up to end, such ones.
func (r row) fill(x, end int, c api.Cell) {
	for i := x; i < end; i++ {
		r[i] = c
	}
	r.mend(x)
	r.mend(end)
}

// open lets n such cells come at x; those that go beyond the end are lost.
func (r row) open(x, n int, c api.Cell) {
	n = min(n, len(r)-x)
	copy(r[x+n:], r[x:])
	r.mend(len(r))
	r.fill(x, x+n, c)
}

// shut lets n cells go at x; such cells come at the end.
func (r row) shut(x, n int, c api.Cell) {
	n = min(n, len(r)-x)
	copy(r[x:], r[x+n:])
	r.mend(x)
	r.fill(len(r)-n, len(r), c)
}

// put lets the cell at x be a rune of this width, with its second cell.
func (r row) put(x, width int, c api.Cell) {
	r[x] = c
	if width == 2 {
		r[x+1] = api.Cell{Style: c.Style}
	}
	r.mend(x)
	r.mend(x + width)
}
