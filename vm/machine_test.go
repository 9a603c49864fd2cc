package vm_test

import (
	"math"
	"slices"
	"testing"

	"casement/api"
	. "casement/module"
	"casement/vm"
)

func TestP14_1_Calls(t *testing.T) {
	sub := fn(2, 1, 0, ins(Get, 0), ins(Get, 1), do(Sub), do(Ret))
	m := mod(0, fn(3, 0, 0, ins(Push, 70), ins(Push, 9), ins(Push, 4), ins(Call, 1)), sub)
	leaves(t, "9 without 4", m, 8, 70, 5)
	none := fn(1, 0, 1, ins(Get, 0), ins(Set, 1), do(Ret))
	m = mod(0, fn(3, 0, 1, ins(Push, 70), ins(Push, 9), ins(Call, 1), ins(Get, 1)), none)
	leaves(t, "a function without a result, and locals of its own", m, 7, 70, 2)
	m = mod(0, fn(3, 0, 0, ins(Push, 70), ins(Call, 2)), none, fn(0, 1, 0, ins(Push, -3), do(Ret)))
	leaves(t, "a function that takes nothing", m, 4, 70, -3)
	m = mod(0, fn(3, 0, 0, ins(Push, 70), ins(Call, 1), do(Add)), fn(0, 1, 3, ins(Push, 1), ins(Call, 2), do(Ret)), fn(1, 1, 0, ins(Get, 0), ins(Push, 100), do(Mul), do(Ret)))
	leaves(t, "a function within a function", m, 10, 170)
	m = mod(8, fn(3, 0, 0, ins(Call, 1), ins(Push, 0), do(Load)), fn(0, 0, 0, ins(Push, 0), ins(Push, 6), do(Store), do(Ret)))
	leaves(t, "one memory", m, 7, 6)
}

func TestP14_1_Params(t *testing.T) {
	for params := range 9 {
		f := fn(params, 1, 16-params)
		code := pushes(99)
		want := int64(0)
		for n := range params {
			code = append(code, ins(Push, int64(n+1)))
			want = want*10 + int64(n+1)
		}
		f.Code = pushes(0)
		for n := range int64(16) {
			if n < int64(params) {
				f.Code = append(f.Code, ins(Push, 10), do(Mul))
			}
			f.Code = append(f.Code, ins(Get, n), do(Add), ins(Push, 7777), ins(Set, n))
		}
		f.Code = append(f.Code, do(Ret))
		used := 1 + params + 1 + len(f.Code)
		m := mod(0, fn(3, 0, 0, append(code, ins(Call, 1))...), f)
		leaves(t, "what a function takes, and locals of 0", m, used, 99, want)
		// A second time they aren't what the first one has left.
		m.Funcs[0].Code = append(append(code, ins(Call, 1)), append(code, ins(Call, 1))...)
		leaves(t, "the same twice", m, 2*used, 99, want, 99, want)
	}
}

func TestP14_1_Depth(t *testing.T) {
	// Function 1 calls itself as often as it is told.
	down := fn(1, 1, 0, ins(Get, 0), ins(JumpIf, 4), ins(Push, 0), do(Ret), ins(Get, 0), ins(Push, 1), do(Sub), ins(Call, 1), ins(Push, 1), do(Add), do(Ret))
	deep := func(n int64) api.Module { return mod(0, fn(3, 0, 0, ins(Push, n), ins(Call, 1)), down) }
	for n := range int64(15) {
		leaves(t, "frames within one another", deep(n), 2+int(n)*9+4, n)
	}
	m := deep(15)
	m.Funcs[0].Code = append(m.Funcs[0].Code, do(Drop), do(Ret))
	tells(t, "17 frames", begun(t, m), 5000, dead(3, 2+15*6))
	self := begun(t, start(ins(Get, 0), ins(Get, 1), ins(Get, 2), ins(Call, 0), do(Ret)))
	tells(t, "15 frames more", self, 63, onward(63))
	tells(t, "a frame too many", self, 1, dead(3, 1))
	// Frames that are gone don't count.
	code := join(times(30, ins(Push, 14), ins(Call, 1), do(Drop)), pushes(2))
	leaves(t, "many calls behind one another", mod(0, fn(3, 0, 0, code...), down), 30*(2+14*9+4+1)+1, 2)
}

func TestP14_1_FunctionZeroWithin(t *testing.T) {
	// It calls itself once, with what it is begun with the other way round.
	m := start(ins(Get, 2), ins(Host, 6), do(Drop), ins(Get, 0), ins(Push, 1), do(Eq), ins(JumpIf, 9), do(Ret), do(Trap), ins(Push, 30), ins(Push, 20), ins(Push, 10), ins(Call, 0), ins(Get, 1), ins(Host, 6), do(Drop), do(Ret))
	x := begun(t, m)
	answered(t, "the outer one", x, asks(2, 6, 3), 0)
	answered(t, "the inner one", x, asks(11, 6, 10), 0)
	answered(t, "the outer one again", x, asks(8, 6, 2), 0)
	tells(t, "its end", x, 5000, done(2))
	tells(t, "behind its end", x, 5000, idle())
}

func TestP14_1_Asks(t *testing.T) {
	takes := []int{3, 3, 0, 1, 1, 3, 1, 0, 1, 3, 0, 2}
	for call, n := range takes {
		args := []int64{-11, math.MaxInt64, 33}[:n]
		m := start(join(pushes(77), pushes(args...), []api.Ins{ins(Host, int64(call))})...)
		for _, v := range odd() {
			m.Funcs[0].Code = append(m.Funcs[0].Code[:n+2:n+2], join(show(), show(), []api.Ins{do(Ret)})...)
			x := begun(t, m)
			answered(t, "a host call", x, asks(n+2, int64(call), args...), v)
			answered(t, "its answer", x, asks(1, 6, v), 0)
			answered(t, "what lies below", x, asks(2, 6, 77), 0)
			tells(t, "the end", x, 9, done(2))
		}
	}
	within := mod(0, fn(3, 0, 0, ins(Push, 5), ins(Call, 1), do(Add)), fn(0, 1, 0, ins(Push, 1), ins(Push, 2), ins(Host, 11), do(Ret)))
	within.Funcs[0].Code = append(within.Funcs[0].Code, join(show(), []api.Ins{do(Ret)})...)
	x := begun(t, within)
	answered(t, "a host call within a function", x, asks(5, 11, 1, 2), 400)
	answered(t, "its answer is the inner one's", x, asks(3, 6, 405), 0)
	full := start(join(pushes(slices.Repeat([]int64{1}, 63)...), []api.Ins{ins(Host, 10)}, times(63, do(Add)), show(), []api.Ins{do(Ret)})...)
	x = begun(t, full)
	answered(t, "an answer that fills the stack", x, asks(64, 10), 1000)
	answered(t, "it", x, asks(64, 6, 1063), 0)
}

func TestP14_1_Halt(t *testing.T) {
	tells(t, "Trap", begun(t, start(do(Trap))), 9, dead(4, 1))
	tells(t, "Trap with numbers there", begun(t, start(ins(Push, 1), do(Nop), do(Trap))), 9, dead(4, 3))
	m := mod(0, fn(3, 0, 0, ins(Call, 1), do(Ret)), fn(0, 0, 0, do(Trap)))
	tells(t, "Trap in a function", begun(t, m), 9, dead(4, 2))
}

func TestP14_1_Fuel(t *testing.T) {
	for _, x := range []struct{ fuel, used int }{
		{0, 0}, {-1, 0}, {-5000, 0}, {math.MinInt, 0}, {1, 1}, {2, 2}, {4999, 4999}, {5000, 5000}, {5001, 5000}, {10000, 5000}, {math.MaxInt, 5000}, {1 << 32, 5000}, {-1 << 32, 0},
	} {
		y := begun(t, start(ins(Jump, 0)))
		tells(t, "a loop", y, x.fuel, onward(x.used))
		tells(t, "it goes on", y, 3, onward(3))
		tells(t, "an idle one", machine(t, start(do(Ret))), x.fuel, idle())
		y = begun(t, start(join(times(2, do(Nop)), []api.Ins{do(Ret)})...))
		switch {
		case x.used >= 3:
			tells(t, "to the end", y, x.fuel, done(3))
			tells(t, "behind it", y, x.fuel, idle())
		default:
			tells(t, "not to the end", y, x.fuel, onward(x.used))
			tells(t, "on", y, 3-x.used-1, onward(3-x.used-1))
			tells(t, "to the end", y, 1, done(1))
		}
	}
	tells(t, "fuel that is just enough for a trap", begun(t, start(do(Trap))), 1, dead(4, 1))
	tells(t, "fuel that is just enough for a host call", begun(t, start(ins(Host, 7), do(Drop), do(Ret))), 1, asks(1, 7))
}

func TestP14_1_New(t *testing.T) {
	long := mod(1024, fn(3, 0, 0, do(Ret)))
	long.Data = make([]byte, 1024)
	long.Funcs = append(long.Funcs, slices.Repeat([]api.Func{fn(0, 0, 0, append(times(399, do(Nop)), do(Ret))...)}, 8)...)
	for _, m := range []api.Module{
		{}, mod(0, fn(2, 0, 0, do(Ret))), mod(0, fn(3, 1, 0, ins(Push, 1), do(Ret))), start(), start(do(Nop)), start(do(Drop), do(Ret)), start(ins(Push, 1), do(Ret)),
		start(ins(Get, 4), do(Drop), do(Ret)), start(ins(Set, -1), do(Ret)), start(ins(Jump, 1)), start(ins(JumpIf, 9)), start(ins(Call, 1), do(Ret)), start(ins(Host, 12), do(Drop), do(Ret)), start(ins(30, 0), do(Ret)), start(ins(Ret, 1)),
		start(append(pushes(make([]int64, 65)...), do(Trap))...), start(ins(Push, 1), ins(Jump, 0)), mod(0, fn(3, 0, 0, do(Ret)), fn(0, 1, 0, do(Ret))),
		mod(1025, fn(3, 0, 0, do(Ret))), mod(-1, fn(3, 0, 0, do(Ret))), {Data: []byte{1}, Funcs: start(do(Ret)).Funcs}, mod(0, slices.Repeat(start(do(Ret)).Funcs, 17)...), mod(0, fn(3, 0, 14, do(Ret))), start(times(401, do(Trap))...), long,
	} {
		if x, code := vm.New(m); x != nil || code != 130 {
			t.Errorf("New(%v) = %v, %d", m, x, code)
		}
	}
	long.Funcs = long.Funcs[:8] // 4096 bytes and less
	tells(t, "much of all", begun(t, long), 9, done(1))
}

func TestP14_1_WhatANewOneHas(t *testing.T) {
	m := start(do(Ret))
	m.Data = []byte{5, 0, 255}
	x := machine(t, m)
	holds(t, "its data and zeros", x, append([]byte{5, 0, 255}, make([]byte, 17)...))
	if x.Busy() {
		t.Error("a new one is busy")
	}
	if code := x.Reply(1); code != 1 {
		t.Errorf("Reply to a new one = %d", code)
	}
	tells(t, "a new one", x, 9, idle())
	begins(t, x, 1, 2, 3)
	tells(t, "behind all this", x, 9, done(1))
}

// refuses holds that neither Begin nor Reply do anything but what they may.
func refuses(t *testing.T, what string, x *vm.Machine, begin, reply bool) {
	t.Helper()
	for range 2 {
		if begin {
			if code := x.Begin(7, 8, 9); code != 1 {
				t.Errorf("%s: Begin = %d", what, code)
			}
		}
		if reply {
			if code := x.Reply(7); code != 1 {
				t.Errorf("%s: Reply = %d", what, code)
			}
		}
	}
}

func TestP14_1_States(t *testing.T) {
	m := start(join([]api.Ins{ins(Get, 0), ins(Push, 4), ins(Host, 11)}, show(), []api.Ins{ins(Get, 1), ins(Push, 3), do(Div), do(Drop), do(Ret)})...)
	x := machine(t, m)
	busy := func(what string, want bool) {
		t.Helper()
		if x.Busy() != want {
			t.Errorf("%s: Busy is %v", what, !want)
		}
		holds(t, what, x, make([]byte, 20))
	}
	for n := range int64(3) {
		busy("idle", false)
		refuses(t, "idle", x, false, true)
		tells(t, "idle", x, 9, idle())
		begins(t, x, 10+n, 20+n, 30+n)
		busy("begun", true)
		refuses(t, "begun", x, true, true)
		tells(t, "begun", x, 0, onward(0))
		tells(t, "under way", x, 2, onward(2))
		busy("under way", true)
		refuses(t, "under way", x, true, true)
		tells(t, "a host call", x, 9, asks(1, 11, 10+n, 4))
		for _, fuel := range []int{9, 0, -1, 5000} {
			busy("waiting", true)
			refuses(t, "waiting", x, true, false)
			tells(t, "waiting", x, fuel, asks(0, 11, 10+n, 4))
		}
		if code := x.Reply(40 + n); code != 0 {
			t.Errorf("Reply = %d", code)
		}
		busy("answered", true)
		refuses(t, "answered", x, true, true)
		tells(t, "answered", x, 0, onward(0))
		answered(t, "another call", x, asks(1, 6, 40+n), 0)
		tells(t, "nearly done", x, 5, onward(5))
		busy("nearly done", true)
		tells(t, "done", x, 1, done(1))
		busy("done", false)
	}
}

func TestP14_1_Dead(t *testing.T) {
	for trap, m := range map[int]api.Module{
		1: start(ins(Push, 0), ins(Push, 0), do(Mod), do(Drop), do(Ret)),
		2: start(ins(Push, 20), do(Nop), do(Load), do(Drop), do(Ret)),
		4: start(do(Nop), do(Nop), do(Trap)),
	} {
		m.Data = []byte{1, 2}
		x := begun(t, m)
		tells(t, "dying", x, 9, dead(trap, 3))
		for _, fuel := range []int{9, 0, -1, 5000} {
			tells(t, "dead", x, fuel, dead(trap, 0))
			refuses(t, "dead", x, true, true)
			holds(t, "dead", x, append([]byte{1, 2}, make([]byte, 18)...))
			if x.Busy() {
				t.Error("a dead one is busy")
			}
		}
	}
	x := begun(t, mod(3, fn(3, 0, 0, ins(Get, 0), ins(Get, 1), ins(Get, 2), ins(Call, 0), do(Ret))))
	tells(t, "dying of calls", x, 5000, dead(3, 64))
	refuses(t, "dead of calls", x, true, true)
	tells(t, "dead of calls", x, 5000, dead(3, 0))
}

func TestP14_1_MemoryStays(t *testing.T) {
	// The byte at a becomes one more, each time.
	x := machine(t, filled(20, ins(Get, 1), ins(Get, 1), do(Load), ins(Push, 1), do(Add), do(Store), do(Ret)))
	want, _ := x.Memory(0, 20)
	for n := range 600 {
		begins(t, x, 1, int64(n%20), 3)
		tells(t, "a byte more", x, 9, done(7))
		want[n%20]++
		holds(t, "from event to event", x, want)
	}
	begins(t, x, 1, 20, 3)
	tells(t, "dying", x, 9, dead(2, 3))
	holds(t, "dead", x, want)
}

func TestP14_1_Memory(t *testing.T) {
	for _, size := range []int{0, 1, 2, 9, 20, 1024} {
		m := filled(size, do(Ret))
		all := make([]byte, size)
		copy(all, m.Data)
		x := machine(t, m)
		list := places(size)
		for _, at := range list {
			for _, n := range list {
				within := at >= 0 && at <= int64(size) && n >= 0 && n <= int64(size) && at+n <= int64(size)
				var want []byte
				if within {
					want = all[at : at+n]
				}
				got, ok := x.Memory(at, n)
				if ok != within || !slices.Equal(got, want) {
					t.Fatalf("Memory(%d, %d) of %d bytes = %v, %v, not %v", at, n, size, got, ok, want)
				}
			}
		}
	}
}
