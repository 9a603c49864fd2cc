package vm

import (
	"casement/api"
	"casement/check"
)

// frame is a function that is being carried out.
type frame struct {
	function int
	next     int // the place of its next instruction
	locals   []int64
	stack    []int64
}

// push puts numbers onto the stack.
func (f *frame) push(list ...int64) { f.stack = append(f.stack, list...) }

// pop takes the number that lies highest.
func (f *frame) pop() int64 { return f.take(1)[0] }

// take takes so many numbers, the deepest one first. No check that they are there: layer 13 has seen to that.
func (f *frame) take(n int) []int64 {
	left := len(f.stack) - n
	list := f.stack[left:]
	f.stack = f.stack[:left]
	return list
}

// inner is the frame of which the next instruction is. It is another one, and may lie elsewhere, once frames come or go.
func (x *Machine) inner() *frame { return &x.frames[len(x.frames)-1] }

// enter makes a frame of a function, within those that there are.
func (x *Machine) enter(function int, args ...int64) {
	f := x.program.Funcs[function]
	locals := make([]int64, f.Params+f.Locals)
	copy(locals, args)
	x.frames = append(x.frames, frame{function: function, locals: locals})
}

// call makes a frame of a function that takes its arguments from the one around it.
func (x *Machine) call(function int) (trap int) {
	if len(x.frames) == api.MaxCalls {
		return Calls
	}
	x.enter(function, x.inner().take(x.program.Funcs[function].Params)...)
	return noTrap
}

// leave lets the innermost frame go, with what its function results in.
func (x *Machine) leave() {
	results := x.inner().stack
	x.frames = x.frames[:len(x.frames)-1]
	if len(x.frames) == 0 {
		x.now = Told{Kind: Done}
		return
	}
	x.inner().push(results...)
}

// ask lets the machine wait for a host call's answer.
func (x *Machine) ask(i api.Ins) {
	f := x.inner()
	takes, _, _ := check.Effect(x.program, f.function, i)
	// The arguments lie where the answer will be put: until then nothing is, and Run tells copies of them.
	x.now = Told{Kind: Asks, Call: i.N, Args: f.take(takes)}
}

// die makes the machine dead.
func (x *Machine) die(trap int) {
	x.frames = nil
	x.now = Told{Kind: Dead, Trap: trap}
}
