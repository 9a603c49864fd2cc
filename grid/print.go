package grid

import (
	"casement/api"
	"casement/glyph"
)

// print writes a rune at the cursor.
func (g *Grid) print(r rune) {
	width := glyph.Width(r)
	if width == 0 || width > g.w {
		return
	}
	g.findRoom(width)
	if g.insert {
		g.row().open(g.x, width, g.cleared())
	}
	g.row().put(g.x, width, api.Cell{Rune: r, Style: g.style})
	g.last = r
	g.x += width
	g.held = g.x == g.w && g.wrap
	g.x = min(g.x, g.w-1)
}

// findRoom moves the cursor to where the row has so many cells from it on.
func (g *Grid) findRoom(width int) {
	if g.held {
		g.nextRow()
	}
	switch {
	case g.x+width <= g.w:
	case g.wrap:
		g.nextRow()
	default:
		g.x = g.w - width
	}
}

// repeat prints the last rune again.
func (g *Grid) repeat(n int) {
	for range min(n, api.MaxSide) {
		g.print(g.last) // of none: the rune 0, which has no width
	}
}
