package grid

// back goes to the column ahead.
func (g *Grid) back() { g.left(1) }

// tab goes to the next tab stop.
func (g *Grid) tab() {
	for g.x < g.w-1 {
		g.x++
		if g.stops[g.x] {
			return
		}
	}
}

// toStart goes to the first column.
func (g *Grid) toStart() { g.x = 0 }

// nextRow goes to the next row's first column.
func (g *Grid) nextRow() {
	g.toStart()
	g.lineFeed()
}

// up goes up, and doesn't leave the region over its top.
func (g *Grid) up(n int) {
	limit := 0
	if g.y >= g.top {
		limit = g.top
	}
	g.y = max(limit, g.y-n)
}

// down goes down, and doesn't leave the region over its bottom.
func (g *Grid) down(n int) {
	limit := g.h - 1
	if g.y <= g.bottom {
		limit = g.bottom
	}
	g.y = min(limit, g.y+n)
}

// left goes left.
func (g *Grid) left(n int) { g.x = max(0, g.x-n) }

// right goes right.
func (g *Grid) right(n int) { g.x = min(g.w-1, g.x+n) }

// upToStart goes up, to the first column.
func (g *Grid) upToStart(n int) {
	g.up(n)
	g.toStart()
}

// downToStart goes down, to the first column.
func (g *Grid) downToStart(n int) {
	g.down(n)
	g.toStart()
}

// toColumn goes to a column, counted from 1 on.
func (g *Grid) toColumn(n int) { g.x = min(n, g.w) - 1 }

// toRow goes to a row, counted from 1 on.
func (g *Grid) toRow(n int) {
	if g.origin {
		g.y = min(g.top+n-1, g.bottom)
		return
	}
	g.y = min(n, g.h) - 1
}

// toPlace goes to a row and a column.
func (g *Grid) toPlace(ns numbers) {
	g.toRow(ns.count(0))
	g.toColumn(ns.count(1))
}

// home goes to the first row and column.
func (g *Grid) home() { g.toPlace(nil) }

// save saves the cursor for the screen that is shown.
func (g *Grid) save() { g.screens[g.shown].saved = g.cursor }

// restore makes the cursor the saved one. It was saved as it was: the grid may have been larger then.
func (g *Grid) restore() {
	g.cursor = g.screens[g.shown].saved
	g.x = min(g.x, g.w-1)
	g.y = min(g.y, g.h-1)
}
