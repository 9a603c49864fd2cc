package caps

import (
	"casement/api"
	"casement/check"
	"casement/glyph"
	"casement/module"
	"casement/sgr"
)

const (
	maxKind  = 8  // the greatest kind of an event
	maxBytes = 64 // of a write, of a log
)

// part is where bytes lie in the memory. The zero part lies in each.
type part struct{ at, length int64 }

// Ask is what a host call asks for, or the answer for what isn't done.
func Ask(have int, n int64, args []int64, memory []byte) (Call, int64) {
	if takes, ok := takenBy(n); !ok || len(args) != takes {
		return Call{}, No
	}
	if need := Needs(n); have&need != need {
		return Call{}, NotAllowed
	}
	c, p, ok := read(int(n), args)
	if !ok {
		return Call{}, BadArg
	}
	if !p.within(memory) {
		return Call{}, BadMemory
	}
	c.Bytes = append(c.Bytes, memory[p.at:p.at+p.length]...)
	return c, 0
}

// takenBy is how many arguments a host call takes; false, if there is no such call.
func takenBy(n int64) (int, bool) {
	// What a host call takes hangs on no function, but it has to stand in one.
	program := api.Module{Funcs: make([]api.Func, 1)}
	takes, _, ok := check.Effect(program, 0, api.Ins{Op: module.Host, N: n})
	return takes, ok
}

// read is the call that arguments say, and where its bytes lie; false, if one is out of its range.
func read(n int, args []int64) (c Call, p part, ok bool) {
	c.N = n
	switch n {
	case callDraw:
		c.X, c.Y, c.Rune = int(args[0]), int(args[1]), rune(args[2])
		ok = onSide(args[0]) && onSide(args[1]) && narrow(args[2])
	case callStyle:
		c.Style = api.Style{Fg: int(args[0]), Bg: int(args[1]), Attr: int(args[2])}
		ok = sgr.Right(c.Style)
	case callSubscribe, callUnsubscribe:
		c.Kind = int(args[0])
		ok = between(1, args[0], maxKind)
	case callWrite:
		c.Pane, p = int(args[0]), part{at: args[1], length: args[2]}
		ok = isPane(args[0]) && p.short()
	case callFocus, callClose:
		c.Pane = int(args[0])
		ok = isPane(args[0])
	case callLook:
		c.Pane, c.X, c.Y = int(args[0]), int(args[1]), int(args[2])
		ok = isPane(args[0]) && onSide(args[1]) && onSide(args[2])
	case callLog:
		p = part{at: args[0], length: args[1]}
		ok = p.short()
	default: // what takes no arguments has none that could be wrong
		ok = true
	}
	return c, p, ok
}

func between(least, v, most int64) bool { return least <= v && v <= most }

func onSide(v int64) bool { return between(0, v, api.MaxSide-1) }

func isPane(v int64) bool { return between(1, v, api.MaxTime) }

// narrow tells whether a number is a rune that takes one cell.
func narrow(v int64) bool {
	// A greater number would be cut to a rune's bits, and pass for another one.
	return v == int64(rune(v)) && glyph.Width(rune(v)) == 1
}

func (p part) short() bool { return between(0, p.length, maxBytes) }

// within tells whether a short part lies in the memory.
func (p part) within(memory []byte) bool {
	size := int64(len(memory))
	// The sum of both could pass the greatest number there is.
	return between(0, p.at, size) && p.length <= size-p.at
}
