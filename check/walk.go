package check

import (
	"slices"

	"casement/api"
	"casement/module"
)

// unreached is the height of an instruction that isn't reached.
const unreached = -1

// walk goes from instruction to instruction, each one once.
type walk struct {
	heights []int
	todo    []int // places that are reached, and aren't gone on from yet
}

// heights are those of a function whose instructions' numbers are right; false, if its stack would run out or over.
func heights(m api.Module, f int) ([]int, bool) {
	code := m.Funcs[f].Code
	w := walk{heights: slices.Repeat([]int{unreached}, len(code))}
	w.reach(0, 0)
	for len(w.todo) > 0 {
		at := w.todo[0]
		w.todo = w.todo[1:]
		height, ok := behind(m, f, code[at], w.heights[at])
		if !ok || !w.reachAll(next(code[at], at), height) {
			return nil, false
		}
	}
	return w.heights, true
}

// behind is how many numbers there are behind an instruction, if there may be.
func behind(m api.Module, f int, i api.Ins, height int) (int, bool) {
	takes, puts, _ := Effect(m, f, i)
	left := height - takes
	if left < 0 || left+puts > api.MaxStack || i.Op == module.Ret && left > 0 {
		return 0, false
	}
	return left + puts, true
}

// next are the places that come behind an instruction.
func next(i api.Ins, at int) []int {
	switch i.Op {
	case module.Jump:
		return []int{int(i.N)}
	case module.JumpIf:
		return []int{int(i.N), at + 1}
	case module.Ret, module.Trap:
		return nil
	}
	return []int{at + 1}
}

// reachAll reaches places with so many numbers on the stack, if that may be.
func (w *walk) reachAll(places []int, height int) bool {
	for _, at := range places {
		if !w.reach(at, height) {
			return false
		}
	}
	return true
}

// reach reaches a place with so many numbers on the stack, if it is one, and wasn't reached with another height.
func (w *walk) reach(at, height int) bool {
	if at == len(w.heights) {
		return false
	}
	if w.heights[at] == unreached {
		w.heights[at] = height
		w.todo = append(w.todo, at)
	}
	return w.heights[at] == height
}
