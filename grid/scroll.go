package grid

import "slices"

// lineFeed goes to the next row; at the region's end the region scrolls.
func (g *Grid) lineFeed() {
	switch g.y {
	case g.bottom:
		g.scrollUp(1)
	case g.h - 1:
	default:
		g.y++
	}
}

// reverseFeed goes to the row ahead; at the region's beginning the region scrolls.
func (g *Grid) reverseFeed() {
	switch g.y {
	case g.top:
		g.scrollDown(1)
	case 0:
	default:
		g.y--
	}
}

// scrollUp scrolls the region. What goes at the main screen's top is past.
func (g *Grid) scrollUp(n int) {
	if g.top == 0 {
		g.bury(min(n, g.bottom+1))
	}
	g.pullRows(g.top, n)
}

// scrollDown scrolls the region.
func (g *Grid) scrollDown(n int) { g.pushRows(g.top, n) }

// shutRows lets rows of the region go at the cursor.
func (g *Grid) shutRows(n int) {
	if g.inRegion() {
		g.pullRows(g.y, n)
		g.toStart()
	}
}

// openRows lets rows of the region come at the cursor.
func (g *Grid) openRows(n int) {
	if g.inRegion() {
		g.pushRows(g.y, n)
		g.toStart()
	}
}

// inRegion tells whether the cursor's row is one of the region.
func (g *Grid) inRegion() bool { return g.top <= g.y && g.y <= g.bottom }

// pullRows moves the rows from top to the region's bottom up; cleared ones come at the end.
func (g *Grid) pullRows(top, n int) {
	rows := g.rows()[top : g.bottom+1]
	n = min(n, len(rows))
	rotate(rows, n)
	wipe(rows[len(rows)-n:], g.cleared())
}

// pushRows moves the rows from top to the region's bottom down; cleared ones come at the top.
func (g *Grid) pushRows(top, n int) {
	rows := g.rows()[top : g.bottom+1]
	n = min(n, len(rows))
	rotate(rows, len(rows)-n)
	wipe(rows[:n], g.cleared())
}

// rotate moves the first n rows behind the others: the rows that go are those that come, so that scrolling takes no new
// memory.
func rotate(rows []row, n int) {
	first := slices.Clone(rows[:n])
	copy(rows, rows[n:])
	copy(rows[len(rows)-n:], first)
}

// bury makes the first n rows past, if they are the main screen's.
func (g *Grid) bury(n int) {
	if g.shown != mainScreen {
		return
	}
	for _, r := range g.rows()[:n] {
		g.past.Push(slices.Clone(r))
	}
}

// forget empties the past.
func (g *Grid) forget() {
	for g.past.Len() > 0 {
		g.past.Pop()
	}
}
