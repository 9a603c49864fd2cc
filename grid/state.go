package grid

import "casement/api"

// The two screens.
const (
	mainScreen = iota
	otherScreen
)

// stopEvery is how far the tab stops lie apart at first.
const stopEvery = 8

// cursor is what is saved of the cursor.
type cursor struct {
	x, y  int
	style api.Style
}

// screen is one of the two.
type screen struct {
	rows  []row
	saved cursor
}

// state is what ESC c makes as it was at first.
type state struct {
	cursor
	held        bool // the next rune comes on the next row
	screens     [2]screen
	shown       int // which screen
	top, bottom int // the region
	stops       [api.MaxSide]bool
	wrap        bool
	insert      bool
	origin      bool
	hidden      bool
	title       string
	last        rune // 0: none, as no rune 0 is ever written
}

// fresh is how a grid is at first, but for its screens' rows.
func fresh(h int) state {
	return state{bottom: h - 1, stops: firstStops(), wrap: true}
}

// firstStops are the tab stops at first.
func firstStops() [api.MaxSide]bool {
	var stops [api.MaxSide]bool
	for x := stopEvery; x < len(stops); x += stopEvery {
		stops[x] = true
	}
	return stops
}

// rows are those of the screen that is shown.
func (s *state) rows() []row { return s.screens[s.shown].rows }

// row is the cursor's.
func (s *state) row() row { return s.rows()[s.y] }

// cleared is a cell that was cleared now.
func (s *state) cleared() api.Cell { return blank(s.style.Bg) }
