package vm_test

import (
	"math"
	"math/rand"
	"slices"
	"testing"

	"casement/api"
	. "casement/module"
	"casement/vm"
)

func ins(op int, n int64) api.Ins { return api.Ins{Op: op, N: n} }

// do is an instruction without a number.
func do(op int) api.Ins { return api.Ins{Op: op} }

func fn(params, results, locals int, code ...api.Ins) api.Func {
	return api.Func{Params: params, Results: results, Locals: locals, Code: code}
}

// mod is a module of so much memory.
func mod(mem int, funcs ...api.Func) api.Module { return api.Module{Mem: mem, Funcs: funcs} }

// start is a module of a function that is begun, with a local and 20 bytes of memory.
func start(code ...api.Ins) api.Module { return mod(20, fn(3, 0, 1, code...)) }

// join puts pieces of code behind one another.
func join(pieces ...[]api.Ins) []api.Ins { return slices.Concat(pieces...) }

// times is n times the same.
func times(n int, code ...api.Ins) []api.Ins { return slices.Repeat(code, n) }

// pushes puts numbers onto the stack.
func pushes(list ...int64) (code []api.Ins) {
	for _, n := range list {
		code = append(code, ins(Push, n))
	}
	return code
}

// show asks with the number that lies highest, which goes.
func show() []api.Ins { return []api.Ins{ins(Host, 6), do(Drop)} }

// What is told.
func idle() vm.Told               { return vm.Told{} }
func done(used int) vm.Told       { return vm.Told{Kind: 1, Used: used} }
func onward(used int) vm.Told     { return vm.Told{Kind: 2, Used: used} }
func dead(trap, used int) vm.Told { return vm.Told{Kind: 4, Trap: trap, Used: used} }
func asks(used int, call int64, args ...int64) vm.Told {
	return vm.Told{Kind: 3, Used: used, Call: call, Args: args}
}

// sameTold tells whether the same is told; a list that is nil and one that is empty are.
func sameTold(a, b vm.Told) bool {
	return a.Kind == b.Kind && a.Trap == b.Trap && a.Used == b.Used && a.Call == b.Call && slices.Equal(a.Args, b.Args)
}

// machine is one of a module without a flaw.
func machine(t *testing.T, m api.Module) *vm.Machine {
	t.Helper()
	x, code := vm.New(m)
	if x == nil || code != 0 {
		t.Fatalf("New(%v) = %v, %d", m, x, code)
	}
	return x
}

// begun is a machine that has begun with 1, 2, 3.
func begun(t *testing.T, m api.Module) *vm.Machine {
	t.Helper()
	x := machine(t, m)
	begins(t, x, 1, 2, 3)
	return x
}

func begins(t *testing.T, x *vm.Machine, kind, a, b int64) {
	t.Helper()
	if code := x.Begin(kind, a, b); code != 0 {
		t.Fatalf("Begin = %d", code)
	}
}

// tells holds what Run tells.
func tells(t *testing.T, what string, x *vm.Machine, fuel int, want vm.Told) {
	t.Helper()
	if got := x.Run(fuel); !sameTold(got, want) {
		t.Fatalf("%s: Run(%d) = %v, not %v", what, fuel, got, want)
	}
}

// answered holds what the machine asks, and gives it an answer.
func answered(t *testing.T, what string, x *vm.Machine, want vm.Told, v int64) {
	t.Helper()
	tells(t, what, x, 5000, want)
	if code := x.Reply(v); code != 0 {
		t.Fatalf("%s: Reply = %d", what, code)
	}
}

// leaves holds code to the numbers that it leaves on the stack, the deepest one first, and to how many units it uses.
func leaves(t *testing.T, what string, m api.Module, used int, want ...int64) {
	t.Helper()
	code := join(m.Funcs[0].Code, slices.Concat(slices.Repeat([][]api.Ins{show()}, len(want))...), []api.Ins{do(Ret)})
	m.Funcs = slices.Clone(m.Funcs)
	m.Funcs[0].Code = code
	x := begun(t, m)
	for i := range want {
		answered(t, what, x, asks(used+1, 6, want[len(want)-1-i]), int64(i))
		used = 1 // the answer goes
	}
	tells(t, what, x, 5000, done(used+1))
}

// gives holds plain code, of which all is carried out, to what it leaves.
func gives(t *testing.T, what string, code []api.Ins, want ...int64) {
	t.Helper()
	leaves(t, what, start(code...), len(code), want...)
}

// holds holds a machine's memory.
func holds(t *testing.T, what string, x *vm.Machine, want []byte) {
	t.Helper()
	if got, ok := x.Memory(0, int64(len(want))); !ok || !slices.Equal(got, want) {
		t.Fatalf("%s: the memory is %v, %v, not %v", what, got, ok, want)
	}
	if _, ok := x.Memory(0, int64(len(want))+1); ok {
		t.Fatalf("%s: there is more memory than %d bytes", what, len(want))
	}
}

// odd are numbers near which much is another.
func odd() []int64 {
	list := []int64{0, 1, -1, 2, -2, 3, 7, 8, 10, -10, 62, 63, 64, 65, 127, 128, 255, 256, -63, -64, -65, 1 << 31, 1 << 32, 1<<32 + 1, -1 << 31, -1 << 32, 1 << 53, 1<<53 + 1, 1 << 62, -1 << 62}
	return append(list, math.MaxInt64, math.MaxInt64-1, math.MinInt64, math.MinInt64+1)
}

// copied shares nothing with the module.
func copied(m api.Module) api.Module {
	m.Data = slices.Clone(m.Data)
	m.Funcs = slices.Clone(m.Funcs)
	for i, f := range m.Funcs {
		m.Funcs[i].Code = slices.Clone(f.Code)
	}
	return m
}

func sameFunc(a, b api.Func) bool {
	return a.Params == b.Params && a.Results == b.Results && a.Locals == b.Locals && slices.Equal(a.Code, b.Code)
}

// same tells whether modules are the same.
func same(a, b api.Module) bool {
	return a.Mem == b.Mem && slices.Equal(a.Data, b.Data) && slices.EqualFunc(a.Funcs, b.Funcs, sameFunc)
}

// spoil writes over a list and its spare room.
func spoil[T any](list []T, v T) {
	list = list[:cap(list)]
	for i := range list {
		list[i] = v
	}
}

// spoilModule writes over all lists of a module.
func spoilModule(m api.Module) {
	for _, f := range m.Funcs {
		spoil(f.Code, do(Trap))
	}
	spoil(m.Funcs, fn(3, 0, 0))
	spoil(m.Data, 99)
}

func pick[T any](rnd *rand.Rand, of ...T) T { return of[rnd.Intn(len(of))] }
