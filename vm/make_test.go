package vm_test

import (
	"math/rand"
	"slices"

	"casement/api"
	"casement/check"
	. "casement/module"
)

// maker makes a function without a flaw: it knows how many numbers lie on the stack.
type maker struct {
	rnd     *rand.Rand
	m       api.Module // of which the functions have no code yet
	f       int
	code    []api.Ins
	heights []int
	height  int // -1: what comes next isn't reached
	open    []jump
}

// jump is one to a place that isn't there yet.
type jump struct{ at, height int }

func (k *maker) put(i api.Ins, takes, puts int) {
	k.code = append(k.code, i)
	k.heights = append(k.heights, k.height)
	k.height += puts - takes
}

// step puts one instruction, if it may stand here.
func (k *maker) step() {
	if k.height < 0 || len(k.open) > 0 && k.rnd.Intn(6) == 0 {
		k.bind()
		return
	}
	i := k.some()
	k.prepare(i)
	takes, puts, _ := check.Effect(k.m, k.f, i)
	if takes > k.height || k.height-takes+puts > 64 || i.Op == Ret && (k.height != takes || k.rnd.Intn(3) > 0) {
		return
	}
	switch i.Op {
	case Ret, Trap:
		k.put(i, takes, 0)
		k.height = -1
	case Jump, JumpIf:
		k.jump(i.Op, takes)
	default:
		k.put(i, takes, puts)
	}
}

// prepare puts numbers with which an instruction mostly goes well.
func (k *maker) prepare(i api.Ins) {
	if k.height > 60 || k.rnd.Intn(20) == 0 {
		return
	}
	place := ins(Push, int64(k.rnd.Intn(max(k.m.Mem-7, 1))))
	switch i.Op {
	case Load, Load8:
		k.put(place, 0, 1)
	case Store, Store8:
		k.put(place, 0, 1)
		k.put(ins(Push, k.number()), 0, 1)
	case Div, Mod:
		k.put(ins(Push, pick(k.rnd, int64(1), -1, 2, 3, -10, 1<<33)), 0, 1)
	}
}

// number is one that a program may have.
func (k *maker) number() int64 {
	return pick(k.rnd, odd()[k.rnd.Intn(len(odd()))], 0, 1, 2, 3, 5, 8, -1, int64(k.rnd.Intn(k.m.Mem+1)), int64(k.rnd.Uint64()))
}

// jump puts one, to a place that is there with the same height, or, more often, that is to come.
func (k *maker) jump(op, takes int) {
	height := k.height - takes
	back := slices.Index(k.heights, height)
	if back < 0 || k.rnd.Intn(4) > 0 {
		k.open = append(k.open, jump{len(k.code), height})
		back = 0
	}
	k.put(ins(op, int64(back)), takes, 0)
	if op == Jump {
		k.height = -1
	}
}

// bind lets a jump lead here, where nothing else leads, or as many numbers lie.
func (k *maker) bind() {
	if len(k.open) == 0 {
		// Nothing leads here any more.
		k.put(do(Nop), 0, 0)
		k.height = -1
		return
	}
	n := k.rnd.Intn(len(k.open))
	if k.height >= 0 && k.height != k.open[n].height {
		return
	}
	k.code[k.open[n].at].N = int64(len(k.code))
	k.height = k.open[n].height
	k.open = slices.Delete(k.open, n, n+1)
}

// end puts what lets the function return.
func (k *maker) end() {
	results := k.m.Funcs[k.f].Results
	for k.height > results {
		k.put(do(Drop), 1, 0)
	}
	for k.height < results {
		k.put(ins(Push, 7), 0, 1)
	}
	k.put(do(Ret), results, 0)
	k.height = -1
}

// make makes a function of some n instructions.
func (k *maker) make(n int) []api.Ins {
	for range n {
		k.step()
	}
	if k.height >= 0 || len(k.code) == 0 {
		k.end()
	}
	for len(k.open) > 0 {
		k.bind()
		k.end()
	}
	return k.code
}

// some is an instruction whose number is right, but for jumps; seldom one that traps.
func (k *maker) some() api.Ins {
	op := pick(k.rnd, k.rnd.Intn(30), k.rnd.Intn(24), Push, Push, Push, Dup, Get, Get, Set, Add+k.rnd.Intn(12), Call, Host, JumpIf)
	if op == Trap && k.rnd.Intn(5) > 0 {
		op = Call
	}
	f := k.m.Funcs[k.f]
	switch op {
	case Push:
		return ins(op, k.number())
	case Get, Set:
		if f.Params+f.Locals > 0 {
			return ins(op, int64(k.rnd.Intn(f.Params+f.Locals)))
		}
		return do(Nop)
	case Call:
		return ins(op, int64(k.rnd.Intn(len(k.m.Funcs))))
	case Host:
		return ins(op, int64(k.rnd.Intn(12)))
	}
	return do(op)
}

// someModule is one without a flaw.
func someModule(rnd *rand.Rand) api.Module {
	for {
		m := mod(pick(rnd, 0, 7, 8, 16, 40, 300, 1024), fn(3, 0, rnd.Intn(14)))
		for range rnd.Intn(m.Mem + 1) {
			m.Data = append(m.Data, byte(pick(rnd, 0, 1, rnd.Intn(256))))
		}
		for range rnd.Intn(5) {
			params := rnd.Intn(pick(rnd, 3, 9))
			m.Funcs = append(m.Funcs, fn(params, rnd.Intn(2), rnd.Intn(17-params)))
		}
		for f := range m.Funcs {
			k := maker{rnd: rnd, m: m, f: f}
			m.Funcs[f].Code = k.make(1 + rnd.Intn(pick(rnd, 5, 20, 60, 100)))
		}
		if check.Check(m) == (check.Flaw{}) {
			return m
		}
	}
}
