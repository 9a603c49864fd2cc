package module_test

import (
	"math"
	"math/rand"
	"slices"

	"casement/api"
)

// The ops by their numbers in the document, so that the constants are held to it as well.
const (
	nop  = 0
	push = 1
	set  = 6
	host = 28
	ret  = 27
)

func ins(op int, n int64) api.Ins { return api.Ins{Op: op, N: n} }

func fn(params, results, locals int, code ...api.Ins) api.Func {
	return api.Func{Params: params, Results: results, Locals: locals, Code: code}
}

func mod(mem int, data []byte, funcs ...api.Func) api.Module {
	return api.Module{Mem: mem, Data: data, Funcs: funcs}
}

// least is a module with as little as may be.
func least() api.Module { return mod(0, nil, fn(0, 0, 0, ins(ret, 0))) }

// rich is a module with something of everything.
func rich() api.Module {
	return mod(300, []byte("ab"), fn(3, 0, 2, ins(push, -1), ins(set, 4), ins(ret, 0)), fn(0, 1, 0, ins(push, 64), ins(ret, 0)))
}

// nops are n instructions that do nothing.
func nops(n int) []api.Ins { return make([]api.Ins, n) }

// long is a module of n bytes, from 1081 to 4273.
func long(n int) api.Module {
	const funcs = 8
	m := mod(1024, make([]byte, 1024))
	left := n - 9 - 1024 - funcs*5
	for i := range funcs {
		count := min(left-(funcs-1-i), 400)
		m.Funcs = append(m.Funcs, fn(i, i%2, 8, nops(count)...))
		left -= count
	}
	return m
}

// join puts bytes behind one another.
func join(bs ...[]byte) []byte { return slices.Concat(bs...) }

// with is bytes of which one is another.
func with(b []byte, at int, c byte) []byte {
	b = slices.Clone(b)
	b[at] = c
	return b
}

func sameFunc(a, b api.Func) bool {
	return a.Params == b.Params && a.Results == b.Results && a.Locals == b.Locals && slices.Equal(a.Code, b.Code)
}

// same tells whether modules are the same; a list that is nil and one that is empty are.
func same(a, b api.Module) bool {
	return a.Mem == b.Mem && slices.Equal(a.Data, b.Data) && slices.EqualFunc(a.Funcs, b.Funcs, sameFunc)
}

// copied shares nothing with the module.
func copied(m api.Module) api.Module {
	m.Data = slices.Clone(m.Data)
	m.Funcs = slices.Clone(m.Funcs)
	for i, f := range m.Funcs {
		m.Funcs[i].Code = slices.Clone(f.Code)
	}
	return m
}

// spoil writes over a list and its spare room.
func spoil[T any](list []T, v T) {
	list = list[:cap(list)]
	for i := range list {
		list[i] = v
	}
}

// spoilModule writes over all lists of a module.
func spoilModule(m api.Module) {
	for _, f := range m.Funcs {
		spoil(f.Code, ins(99, 99))
	}
	spoil(m.Funcs, fn(9, 9, 9))
	spoil(m.Data, 99)
}

func pick[T any](rnd *rand.Rand, of ...T) T { return of[rnd.Intn(len(of))] }

// someNumber is a number of any length.
func someNumber(rnd *rand.Rand) int64 {
	n := int64(rnd.Uint64()) >> rnd.Intn(64)
	return pick(rnd, n, -n, n, -n, 0, math.MaxInt64, math.MinInt64)
}

func someIns(rnd *rand.Rand) api.Ins {
	i := ins(rnd.Intn(30), 0)
	if modelHas(i.Op) {
		i.N = someNumber(rnd)
	}
	return i
}

// someFunc is a function of so many instructions at most.
func someFunc(rnd *rand.Rand, most int) api.Func {
	params := rnd.Intn(9)
	f := fn(params, rnd.Intn(2), rnd.Intn(17-params))
	for range 1 + rnd.Intn(most) {
		f.Code = append(f.Code, someIns(rnd))
	}
	return f
}

// someModule is one that has bytes, if these aren't too many.
func someModule(rnd *rand.Rand) api.Module {
	m := mod(rnd.Intn(pick(rnd, 1, 20, 300, 1025)), nil)
	for range rnd.Intn(m.Mem + 1) {
		m.Data = append(m.Data, byte(rnd.Intn(256)))
	}
	most := pick(rnd, 1, 4, 12, 12, 30, 12, 4, 300)
	for range 1 + rnd.Intn(pick(rnd, 1, 2, 3, 16)) {
		m.Funcs = append(m.Funcs, someFunc(rnd, most))
	}
	return m
}

// harm makes one thing of a module another, which may be wrong.
func harm(rnd *rand.Rand, m *api.Module) {
	odd := pick(rnd, -1, 0, 1, 2, 7, 8, 9, 15, 16, 17, 29, 30, 256, 257, 1024, 1025, math.MaxInt, math.MinInt, 1<<32+1)
	f := &m.Funcs[rnd.Intn(len(m.Funcs))]
	switch rnd.Intn(9) {
	case 0:
		m.Mem = odd
	case 1:
		m.Data = make([]byte, rnd.Intn(1100))
	case 2:
		m.Funcs = slices.Repeat([]api.Func{*f}, rnd.Intn(20))
	case 3:
		f.Params = odd
	case 4:
		f.Results = odd
	case 5:
		f.Locals = odd
	case 6:
		f.Code = slices.Repeat(f.Code[:1], pick(rnd, 0, 1, 399, 400, 401))
	case 7:
		f.Code[rnd.Intn(len(f.Code))].Op = odd
	case 8:
		f.Code[rnd.Intn(len(f.Code))].N = int64(odd)
	}
}
