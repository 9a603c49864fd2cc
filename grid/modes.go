package grid

import (
	"strings"

	"casement/sgr"
)

// The modes of h and l; those with a ? ahead are private ones.
const (
	insertMode    = 4
	originPrivate = 6
	wrapPrivate   = 7
	cursorPrivate = 25
	otherPrivate  = 1049
)

// setModes puts modes on or off.
func setModes(on bool) deed {
	return func(g *Grid, ns numbers) {
		for _, n := range ns {
			if n == insertMode {
				g.insert = on
			}
		}
	}
}

// setPrivateModes puts private modes on or off.
func setPrivateModes(on bool) deed {
	return func(g *Grid, ns numbers) {
		for _, n := range ns {
			g.setPrivate(n, on)
		}
	}
}

// setPrivate puts a private mode on or off.
func (g *Grid) setPrivate(n int, on bool) {
	switch n {
	case originPrivate:
		g.origin = on
		g.home()
		g.held = false
	case wrapPrivate:
		g.wrap = on
		g.held = g.held && on
	case cursorPrivate:
		g.hidden = !on
	case otherPrivate:
		g.showOther(on)
		g.held = false
	}
}

// showOther lets the other screen be shown, or the main one.
func (g *Grid) showOther(on bool) {
	if on == g.Alt() {
		return
	}
	if on {
		g.save()
		g.shown = otherScreen
		g.clearRows(0, g.h)
		return
	}
	g.shown = mainScreen
	g.restore()
}

// setRegion sets the region, if it has two rows or more.
func (g *Grid) setRegion(ns numbers) {
	first, last := ns.count(0), ns.at(1)
	if last < 1 || last > g.h {
		last = g.h
	}
	if first >= last {
		return
	}
	g.top, g.bottom = first-1, last-1
	g.home()
}

// setStop makes the cursor's column a tab stop.
func (g *Grid) setStop() { g.stops[g.x] = true }

// clearStops takes the cursor's tab stop away, or all.
func (g *Grid) clearStops(ns numbers) {
	switch ns.choice() {
	case 0:
		g.stops[g.x] = false
	case 3:
		clear(g.stops[:])
	}
}

// setStyle changes the style in which is written.
func (g *Grid) setStyle(ns numbers) { g.style = sgr.Apply(g.style, ns) }

// reset makes everything as it was at first, in the rows that there are.
func (g *Grid) reset() {
	screens := g.screens
	g.state = fresh(g.h)
	for i, s := range screens {
		wipe(s.rows, blank(0))
		g.screens[i].rows = s.rows
	}
}

// ring rings the bell.
func (g *Grid) ring() { g.bells++ }

// name sets the title, if the string is one that does.
func (g *Grid) name(final byte, text string) {
	if final == ']' && (strings.HasPrefix(text, "0;") || strings.HasPrefix(text, "2;")) {
		g.title = text[2:]
	}
}
