package check_test

import (
	"math/rand"
	"slices"

	"casement/api"
	"casement/check"
	. "casement/module"
)

func ins(op int, n int64) api.Ins { return api.Ins{Op: op, N: n} }

// do is an instruction without a number.
func do(op int) api.Ins { return api.Ins{Op: op} }

func fn(params, results, locals int, code ...api.Ins) api.Func {
	return api.Func{Params: params, Results: results, Locals: locals, Code: code}
}

// mod is a module of functions.
func mod(funcs ...api.Func) api.Module { return api.Module{Funcs: funcs} }

// start is a module of a function that is begun.
func start(code ...api.Ins) api.Module { return mod(fn(3, 0, 0, code...)) }

// behind is a list with some more.
func behind(list []api.Ins, more ...api.Ins) []api.Ins { return slices.Concat(list, more) }

// times is n times the same.
func times(n int, code ...api.Ins) []api.Ins { return slices.Repeat(code, n) }

// flaw is ErrCode of a function, at an instruction of it.
func flaw(f, at int) check.Flaw { return check.Flaw{Func: f, Ins: at, Code: 130} }

// noFlaw is what a right module has.
var noFlaw = check.Flaw{}

func pick[T any](rnd *rand.Rand, of ...T) T { return of[rnd.Intn(len(of))] }

// sameFunc and same tell whether things are the same; a list that is nil and one that is empty are.
func sameFunc(a, b api.Func) bool {
	return a.Params == b.Params && a.Results == b.Results && a.Locals == b.Locals && slices.Equal(a.Code, b.Code)
}

func same(a, b api.Module) bool {
	return a.Mem == b.Mem && slices.Equal(a.Data, b.Data) && slices.EqualFunc(a.Funcs, b.Funcs, sameFunc)
}

// copied shares nothing with the module.
func copied(m api.Module) api.Module {
	m.Data = slices.Clone(m.Data)
	m.Funcs = slices.Clone(m.Funcs)
	for i, f := range m.Funcs {
		m.Funcs[i].Code = slices.Clone(f.Code)
	}
	return m
}

// spoil writes over a list and its spare room.
func spoil[T any](list []T, v T) {
	list = list[:cap(list)]
	for i := range list {
		list[i] = v
	}
}

// maker makes a function without a flaw, and knows its heights by how it makes it.
type maker struct {
	rnd     *rand.Rand
	m       api.Module // of which the functions have no code yet
	f       int
	code    []api.Ins
	heights []int
	height  int // -1: what comes next isn't reached
	open    []jump
}

// jump is one to a place that isn't there yet.
type jump struct{ at, height int }

func (k *maker) put(i api.Ins, takes, puts int) {
	k.code = append(k.code, i)
	k.heights = append(k.heights, k.height)
	if k.height >= 0 {
		k.height += puts - takes
	}
}

// step puts one instruction, if it may stand here.
func (k *maker) step() {
	i := someIns(k.rnd, k.m, k.f, len(k.code)+1)
	if k.height < 0 {
		if len(k.open) > 0 && k.rnd.Intn(2) == 0 {
			k.bind(k.rnd.Intn(len(k.open)))
			return
		}
		k.put(i, 0, 0)
		return
	}
	takes, puts := modelEffect(k.m, k.f, i)
	if takes > k.height || k.height-takes+puts > 64 || i.Op == Ret && k.height != takes {
		return
	}
	switch i.Op {
	case Ret, Trap:
		k.put(i, takes, 0)
		k.height = -1
	case Jump, JumpIf:
		k.jump(i.Op, takes)
	default:
		k.put(i, takes, puts)
	}
}

// jump puts one, to a place that is there with the same height, or that is to come.
func (k *maker) jump(op, takes int) {
	var places []int
	for at, h := range append(slices.Clone(k.heights), k.height) {
		if h == k.height-takes {
			places = append(places, at)
		}
	}
	at := len(k.code)
	k.put(do(op), takes, 0)
	if len(places) > 0 && k.rnd.Intn(2) == 0 {
		k.code[at].N = int64(pick(k.rnd, places...))
	} else {
		k.open = append(k.open, jump{at, k.height})
	}
	if op == Jump {
		k.height = -1
	}
}

// bind lets a jump lead here.
func (k *maker) bind(n int) {
	k.code[k.open[n].at].N = int64(len(k.code))
	k.height = k.open[n].height
	k.open = slices.Delete(k.open, n, n+1)
}

// end puts what lets the function return.
func (k *maker) end() {
	results := k.m.Funcs[k.f].Results
	for k.height >= 0 && k.height != results {
		if k.height > results {
			k.put(do(Drop), 1, 0)
		} else {
			k.put(ins(Push, 7), 0, 1)
		}
	}
	k.put(do(Ret), results, 0)
	k.height = -1
}

// make makes a function of some n instructions; the heights.
func (k *maker) make(n int) []int {
	for range n {
		k.step()
	}
	if k.height >= 0 || len(k.code) == 0 {
		k.end()
	}
	for len(k.open) > 0 {
		k.bind(0)
		k.end()
	}
	return k.heights
}

// someIns is an instruction whose number is right in a function of so many instructions.
func someIns(rnd *rand.Rand, m api.Module, f, count int) api.Ins {
	op := pick(rnd, rnd.Intn(30), Push, Push, Push, Dup, Get, Host, Call, JumpIf, Jump)
	locals := m.Funcs[f].Params + m.Funcs[f].Locals
	switch op {
	case Push:
		return ins(op, rnd.Int63()-rnd.Int63())
	case Get, Set:
		if locals == 0 {
			return do(Nop)
		}
		return ins(op, int64(rnd.Intn(locals)))
	case Jump, JumpIf:
		return ins(op, int64(rnd.Intn(count)))
	case Call:
		return ins(op, int64(rnd.Intn(len(m.Funcs))))
	case Host:
		return ins(op, int64(rnd.Intn(12)))
	}
	return do(op)
}

// rightModule is one without a flaw, and its functions' heights. (Few of them are too long.)
func rightModule(rnd *rand.Rand) (api.Module, [][]int) {
	m := mod(fn(3, 0, rnd.Intn(14)))
	for range rnd.Intn(pick(rnd, 1, 3, 3, 16)) {
		params := rnd.Intn(9)
		m.Funcs = append(m.Funcs, fn(params, rnd.Intn(2), rnd.Intn(17-params)))
	}
	n := pick(rnd, 1, 3, 10, 40, 40, 130)
	var all [][]int
	for f := range m.Funcs {
		k := maker{rnd: rnd, m: m, f: f}
		all = append(all, k.make(rnd.Intn(n)))
		m.Funcs[f].Code = k.code
	}
	return m, all
}

// harm makes one thing of a module another, which may be wrong.
func harm(rnd *rand.Rand, m *api.Module) {
	f := rnd.Intn(len(m.Funcs))
	code := m.Funcs[f].Code
	at := rnd.Intn(len(code))
	switch rnd.Intn(9) {
	case 0:
		code[at] = someIns(rnd, *m, f, len(code))
	case 1:
		if modelHas(code[at].Op) {
			code[at].N = pick(rnd, -1, 0, 1, 2, 3, 12, 16, int64(len(code)), int64(len(code)-1), 1<<32, -1<<63)
		}
	case 2:
		code[at].Op = rnd.Intn(31)
	case 3:
		m.Funcs[f].Code = slices.Delete(code, at, at+1)
	case 4, 5:
		m.Funcs[f].Code = slices.Insert(code, at, someIns(rnd, *m, f, len(code)))
	case 6:
		m.Funcs[f].Params += pick(rnd, -1, 1)
	case 7:
		m.Funcs[f].Results = pick(rnd, 0, 1, 2)
	case 8:
		m.Funcs[f].Locals = rnd.Intn(17)
	}
}
