package vm

import (
	"casement/api"
	"casement/module"
)

// step carries out the next instruction.
func (x *Machine) step() {
	f := x.inner()
	i := x.program.Funcs[f.function].Code[f.next]
	// Ahead of the instruction, which may lead elsewhere.
	f.next++
	if trap := x.carryOut(f, i); trap != noTrap {
		x.die(trap)
	}
}

// carryOut carries out an instruction of the innermost frame.
func (x *Machine) carryOut(f *frame, i api.Ins) (trap int) {
	switch i.Op {
	case module.Nop:
	case module.Push:
		f.push(i.N)
	case module.Drop:
		f.pop()
	case module.Dup:
		a := f.pop()
		f.push(a, a)
	case module.Swap:
		b, a := f.pop(), f.pop()
		f.push(b, a)
	case module.Get:
		f.push(f.locals[i.N])
	case module.Set:
		f.locals[i.N] = f.pop()
	case module.Not:
		f.push(truth(f.pop() == 0))
	case module.Load:
		return x.load(f, 1)
	case module.Store:
		return x.store(f, 1)
	case module.Load8:
		return x.load(f, 8)
	case module.Store8:
		return x.store(f, 8)
	case module.JumpIf:
		if f.pop() == 0 {
			break
		}
		fallthrough
	case module.Jump:
		f.next = int(i.N)
	case module.Call:
		return x.call(int(i.N))
	case module.Ret:
		x.leave()
	case module.Host:
		x.ask(i)
	case module.Trap:
		return Halt
	default:
		return f.reckon(i.Op)
	}
	return noTrap
}

// reckon makes one number of two.
func (f *frame) reckon(op int) (trap int) {
	b, a := f.pop(), f.pop()
	if b == 0 && (op == module.Div || op == module.Mod) {
		return Zero
	}
	f.push(result(op, a, b))
	return noTrap
}

// result is what an op of two numbers makes of them.
func result(op int, a, b int64) int64 {
	const shifts = 63
	switch op {
	case module.Add:
		return a + b
	case module.Sub:
		return a - b
	case module.Mul:
		return a * b
	case module.Div:
		return a / b
	case module.Mod:
		return a % b
	case module.And:
		return a & b
	case module.Or:
		return a | b
	case module.Xor:
		return a ^ b
	case module.Shl:
		return a << (b & shifts)
	case module.Shr:
		return a >> (b & shifts)
	case module.Eq:
		return truth(a == b)
	}
	return truth(a < b)
}

// truth is what holds as a number.
func truth(holds bool) int64 {
	if holds {
		return 1
	}
	return 0
}
