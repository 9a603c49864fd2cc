package grid

// What the first number of J and K clears.
const (
	fromCursor = 0
	upToCursor = 1
	everything = 2
	thePast    = 3 // of J alone
)

// clearScreen clears cells of the screen, or the past.
func (g *Grid) clearScreen(ns numbers) {
	switch ns.choice() {
	case fromCursor:
		g.clearRows(g.y+1, g.h)
	case upToCursor:
		g.clearRows(0, g.y)
	case everything:
		g.clearRows(0, g.h)
	case thePast:
		g.forget()
	}
	g.clearRow(ns)
}

// clearRows clears the rows from y on, up to end.
func (g *Grid) clearRows(y, end int) { wipe(g.rows()[y:end], g.cleared()) }

// clearRow clears cells of the cursor's row.
func (g *Grid) clearRow(ns numbers) {
	switch ns.choice() {
	case fromCursor:
		g.row().fill(g.x, g.w, g.cleared())
	case upToCursor:
		g.row().fill(0, g.x+1, g.cleared())
	case everything:
		g.row().fill(0, g.w, g.cleared())
	}
}

// clearCells clears cells from the cursor on.
func (g *Grid) clearCells(n int) { g.row().fill(g.x, min(g.x+n, g.w), g.cleared()) }

// shutCells lets cells go at the cursor.
func (g *Grid) shutCells(n int) { g.row().shut(g.x, n, g.cleared()) }

// openCells lets cleared cells come at the cursor.
func (g *Grid) openCells(n int) { g.row().open(g.x, n, g.cleared()) }
