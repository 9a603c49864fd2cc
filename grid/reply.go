package grid

import (
	"strconv"

	"casement/api"
)

// report replies that all is well, or where the cursor is.
func (g *Grid) report(ns numbers) {
	switch ns.at(0) {
	case 5:
		g.reply("\x1b[0n")
	case 6:
		y := g.y + 1
		if g.origin {
			y -= g.top
		}
		g.reply("\x1b[" + strconv.Itoa(y) + ";" + strconv.Itoa(g.x+1) + "R")
	}
}

// identify replies what kind of terminal this is.
func (g *Grid) identify(ns numbers) {
	if ns.choice() == 0 {
		g.reply("\x1b[?1;2c")
	}
}

// reply lets a reply wait, if there is room.
func (g *Grid) reply(text string) {
	if len(g.replies)+len(text) <= api.MaxText {
		g.replies = append(g.replies, text...)
	}
}
