package grid

// Resize makes the sizes others.
func (g *Grid) Resize(w, h int) {
	w, h = side(w), side(h)
	if w == g.w && h == g.h {
		return
	}
	g.dropRows(h)
	for i := range g.screens {
		g.screens[i].resize(w, h)
	}
	g.w, g.h = w, h
	g.x = min(g.x, w-1)
	g.held = false
	g.top, g.bottom = 0, h-1
	g.stops = firstStops()
}

// dropRows lets rows of the screen that is shown go, where there are more than h, so that the cursor's stays: those below
// it first.
func (g *Grid) dropRows(h int) {
	below := max(0, min(g.h-h, g.h-1-g.y))
	above := max(0, g.h-h-below)
	g.bury(above)
	g.screens[g.shown].rows = g.rows()[above : g.h-below]
	g.y -= above
}

// resize makes a screen's sizes others, at the ends of its rows and behind the last one.
func (s *screen) resize(w, h int) {
	rows := newRows(w, h)
	for y := range min(h, len(s.rows)) {
		copy(rows[y], s.rows[y])
		rows[y].mend(w)
	}
	s.rows = rows
}
