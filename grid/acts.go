package grid

import "casement/api"

// deed is what an act does, with the numbers of its sequence.
type deed func(g *Grid, ns numbers)

// numbers are those of a sequence.
type numbers []int

// at is the i-th number; -1: there is none.
func (ns numbers) at(i int) int {
	if i >= len(ns) {
		return -1
	}
	return ns[i]
}

// count is the i-th number, where one that isn't there or is below 1 counts as 1.
func (ns numbers) count(i int) int { return max(1, ns.at(i)) }

// choice is the first number, where one that isn't there counts as 0.
func (ns numbers) choice() int { return max(0, ns.at(0)) }

// nothing is what any other act does; it leaves alone that the cursor is held, too.
func nothing() (do deed, holds bool) {
	return func(*Grid, numbers) {}, true
}

// printing writes a rune.
func printing(r rune) deed {
	return func(g *Grid, _ numbers) { g.print(r) }
}

// naming sets the title, if a string does.
func naming(final byte, text string) deed {
	return func(g *Grid, _ numbers) { g.name(final, text) }
}

// plain does what hangs on no number.
func plain(f func(g *Grid)) deed {
	return func(g *Grid, _ numbers) { f(g) }
}

// counted does what hangs on the number N.
func counted(f func(g *Grid, n int)) deed {
	return func(g *Grid, ns numbers) { f(g, ns.count(0)) }
}

// carryOut does what an act says.
func (g *Grid) carryOut(act api.Act) {
	do, holds := meaning(act)
	do(g, act.Params)
	if !holds {
		g.held = false
	}
}

// meaning is what an act does, and whether it leaves alone that the cursor is held.
func meaning(act api.Act) (do deed, holds bool) {
	switch {
	case act.Kind == api.Print:
		return printing(act.R), true
	case act.Kind == api.Str:
		return naming(act.Final, act.Text), true
	case act.Inter != "":
		return nothing()
	case act.Kind == api.Exec:
		return execMeaning(act.Final)
	case act.Kind == api.Esc:
		return escMeaning(act.Final)
	case act.Priv == 0:
		return csiMeaning(act.Final)
	case act.Priv == '?':
		return privateMeaning(act.Final)
	}
	return nothing()
}

// execMeaning is what a control byte does.
func execMeaning(final byte) (do deed, holds bool) {
	switch final {
	case 7:
		return plain((*Grid).ring), true
	case 8:
		return plain((*Grid).back), false
	case 9:
		return plain((*Grid).tab), false
	case 10, 11, 12:
		return plain((*Grid).lineFeed), false
	case 13:
		return plain((*Grid).toStart), false
	}
	return nothing()
}

// escMeaning is what an escape does.
func escMeaning(final byte) (do deed, holds bool) {
	switch final {
	case '7':
		return plain((*Grid).save), true
	case '8':
		return plain((*Grid).restore), false
	case 'D':
		return plain((*Grid).lineFeed), false
	case 'E':
		return plain((*Grid).nextRow), false
	case 'M':
		return plain((*Grid).reverseFeed), false
	case 'H':
		return plain((*Grid).setStop), true
	case 'c':
		return plain((*Grid).reset), false
	}
	return nothing()
}

// csiMeaning is what a control sequence does.
func csiMeaning(final byte) (do deed, holds bool) {
	if do := holdingMeaning(final); do != nil {
		return do, true
	}
	if do := movingMeaning(final); do != nil {
		return do, false
	}
	return nothing()
}

// holdingMeaning is what a control sequence does that leaves alone that the cursor is held; nil: it is none of these.
func holdingMeaning(final byte) deed {
	switch final {
	case 'J':
		return (*Grid).clearScreen
	case 'K':
		return (*Grid).clearRow
	case 'b':
		return counted((*Grid).repeat) // what it prints says whether the cursor is held behind it
	case 'g':
		return (*Grid).clearStops
	case 'm':
		return (*Grid).setStyle
	case 's':
		return plain((*Grid).save)
	case 'n':
		return (*Grid).report
	case 'c':
		return (*Grid).identify
	case 'h':
		return setModes(true)
	case 'l':
		return setModes(false)
	}
	return nil
}

// movingMeaning is what a control sequence does behind which the cursor isn't held; nil: it is none of these.
func movingMeaning(final byte) deed {
	switch final {
	case 'A':
		return counted((*Grid).up)
	case 'B':
		return counted((*Grid).down)
	case 'C':
		return counted((*Grid).right)
	case 'D':
		return counted((*Grid).left)
	case 'E':
		return counted((*Grid).downToStart)
	case 'F':
		return counted((*Grid).upToStart)
	case 'G':
		return counted((*Grid).toColumn)
	case 'd':
		return counted((*Grid).toRow)
	case 'H', 'f':
		return (*Grid).toPlace
	case 'X':
		return counted((*Grid).clearCells)
	case 'P':
		return counted((*Grid).shutCells)
	case '@':
		return counted((*Grid).openCells)
	case 'L':
		return counted((*Grid).openRows)
	case 'M':
		return counted((*Grid).shutRows)
	case 'S':
		return counted((*Grid).scrollUp)
	case 'T':
		return counted((*Grid).scrollDown)
	case 'r':
		return (*Grid).setRegion
	case 'u':
		return plain((*Grid).restore)
	}
	return nil
}

// privateMeaning is what a control sequence with a ? does. Its modes say themselves whether the cursor is held on.
func privateMeaning(final byte) (do deed, holds bool) {
	switch final {
	case 'h':
		return setPrivateModes(true), true
	case 'l':
		return setPrivateModes(false), true
	}
	return nothing()
}
