package check_test

import (
	"math"
	"slices"
	"testing"

	"casement/api"
	"casement/check"
	. "casement/module"
)

// flaws holds Check to a flaw.
func flaws(t *testing.T, what string, m api.Module, want check.Flaw) {
	t.Helper()
	if got := checks(t, m); got != want {
		t.Errorf("Check of %s (%v) = %v, not %v", what, m, got, want)
	}
}

// rises holds a module without a flaw to its first function's heights.
func rises(t *testing.T, what string, m api.Module, want ...int) {
	t.Helper()
	flaws(t, what, m, noFlaw)
	if got := check.Heights(m, 0); !slices.Equal(got, want) {
		t.Errorf("Heights of %s (%v) = %v, not %v", what, m, got, want)
	}
}

func TestP13_1_NoBytes(t *testing.T) {
	none := check.Flaw{Func: -1, Ins: -1, Code: 1}
	right := start(do(Ret)).Funcs[0]
	for what, m := range map[string]api.Module{
		"nothing":                  {},
		"too much memory":          {Mem: 1025, Funcs: []api.Func{right}},
		"memory below 0":           {Mem: -1, Funcs: []api.Func{right}},
		"too much data":            {Mem: 1, Data: []byte{1, 2}, Funcs: []api.Func{right}},
		"17 functions":             mod(slices.Repeat([]api.Func{right}, 17)...),
		"9 params":                 mod(right, fn(9, 0, 0, do(Ret))),
		"2 results":                mod(right, fn(0, 2, 0, do(Ret))),
		"17 locals":                mod(right, fn(0, 0, 17, do(Ret))),
		"no code":                  mod(right, fn(0, 0, 0)),
		"401 instructions":         start(behind(times(400, do(Nop)), do(Ret))...),
		"no op":                    start(do(Ret), do(30)),
		"a number that isn't had":  start(ins(Ret, 1)),
		"many functions":           {Funcs: make([]api.Func, 1<<20)},
		"many instructions":        start(times(1<<20, do(Ret))...),
		"too many bytes":           mod(slices.Repeat([]api.Func{fn(3, 0, 0, behind(times(399, do(Nop)), do(Ret))...)}, 11)...),
		"too many bytes and flaws": mod(slices.Repeat([]api.Func{fn(0, 1, 0, times(400, do(Drop))...)}, 11)...),
		"no op ahead of a flaw":    mod(fn(0, 0, 0, do(Drop)), fn(0, 0, 0, do(-1))),
	} {
		flaws(t, what, m, none)
	}
}

func TestP13_1_WhatIsBegun(t *testing.T) {
	wrong := check.Flaw{Func: 0, Ins: -1, Code: 1}
	for params := range 9 {
		for results := range 2 {
			want := noFlaw
			if params != 3 || results != 0 {
				want = wrong
			}
			flaws(t, "a function", mod(fn(params, results, 0, do(Trap))), want)
			flaws(t, "a second function", mod(fn(3, 0, 0, do(Ret)), fn(params, results, 0, do(Trap))), noFlaw)
		}
	}
	// It is looked for ahead of the functions' flaws.
	flaws(t, "a function with flaws", mod(fn(2, 0, 0, ins(Get, 5), do(Drop))), wrong)
	flaws(t, "a function that returns", mod(fn(3, 1, 0, ins(Push, 1), do(Ret))), wrong)
}

func TestP13_1_Numbers(t *testing.T) {
	far := []int64{math.MinInt64, -1 << 32, -256, -1, 400, 1 << 32, 1<<32 + 1, math.MaxInt64}
	for _, x := range []struct {
		what  string
		op    int
		m     func(i api.Ins) api.Module
		bound int64
		at    int
	}{
		{"Get of 3 params", Get, func(i api.Ins) api.Module { return start(do(Nop), i, do(Trap)) }, 3, 1},
		{"Get of 3 params and 2 locals", Get, func(i api.Ins) api.Module { return mod(fn(3, 0, 2, i, do(Trap))) }, 5, 0},
		{"Get of 16 locals", Get, func(i api.Ins) api.Module { return mod(fn(3, 0, 13, i, do(Trap))) }, 16, 0},
		{"Set", Set, func(i api.Ins) api.Module { return mod(fn(3, 0, 1, ins(Push, 0), i, do(Trap))) }, 4, 1},
		{"Jump", Jump, func(i api.Ins) api.Module { return start(do(Nop), do(Nop), i, do(Trap)) }, 4, 2},
		{"Jump of one", Jump, func(i api.Ins) api.Module { return start(i) }, 1, 0},
		{"JumpIf", JumpIf, func(i api.Ins) api.Module { return start(do(Trap), ins(Push, 0), i, do(Nop), do(Trap)) }, 5, 2},
		{"Call", Call, func(i api.Ins) api.Module { return mod(fn(3, 0, 0, do(Trap), i), fn(0, 0, 0, do(Ret))) }, 2, 1},
		{"Call of 16 functions", Call, func(i api.Ins) api.Module {
			return mod(append([]api.Func{fn(3, 0, 0, do(Trap), i)}, slices.Repeat([]api.Func{fn(0, 0, 0, do(Ret))}, 15)...)...)
		}, 16, 1},
		{"Host", Host, func(i api.Ins) api.Module { return start(do(Trap), i) }, 12, 1},
	} {
		for n := range x.bound + 20 {
			want := noFlaw
			if n >= x.bound {
				want = flaw(0, x.at)
			}
			flaws(t, x.what, x.m(ins(x.op, n)), want)
		}
		for _, n := range far {
			flaws(t, x.what, x.m(ins(x.op, n)), flaw(0, x.at))
		}
	}
	flaws(t, "Get without locals", mod(fn(3, 0, 0, do(Ret)), fn(0, 0, 0, ins(Get, 0), do(Trap))), flaw(1, 0))
	flaws(t, "Push, whose number may be any", start(ins(Push, math.MinInt64), ins(Push, math.MaxInt64), do(Trap)), noFlaw)
}

func TestP13_1_FirstFlaw(t *testing.T) {
	// Numbers that are wrong are looked for ahead of the stack, also where nothing gets.
	flaws(t, "two wrong numbers", start(do(Ret), do(Nop), ins(Host, 12), ins(Jump, 99)), flaw(0, 2))
	flaws(t, "a wrong number of what isn't reached", start(do(Ret), ins(Get, 3)), flaw(0, 1))
	flaws(t, "a wrong number behind a wrong stack", start(do(Drop), ins(Get, 3), do(Ret)), flaw(0, 1))
	// But function by function.
	flaws(t, "a wrong stack, and a wrong number of the next one", mod(fn(3, 0, 0, do(Drop)), fn(0, 0, 0, ins(Get, 0))), flaw(0, -1))
	flaws(t, "a wrong number of the third one", mod(fn(3, 0, 0, do(Ret)), fn(0, 0, 0, do(Ret)), fn(0, 0, 0, ins(Get, 0)), fn(0, 0, 0, do(Drop))), flaw(2, 0))
	flaws(t, "a wrong stack of the last one", mod(append(slices.Repeat(start(do(Ret)).Funcs, 15), fn(0, 1, 0, do(Ret)))...), flaw(15, -1))
	// One that isn't called is looked at, too.
	flaws(t, "a wrong stack of one that isn't called", mod(fn(3, 0, 0, do(Ret)), fn(0, 0, 0, do(Drop), do(Ret))), flaw(1, -1))
}

func TestP13_1_TooFewNumbers(t *testing.T) {
	m := mod(fn(3, 0, 0, do(Ret)), fn(0, 0, 2, do(Ret)), fn(8, 1, 0, do(Trap)), fn(1, 0, 0, do(Ret)))
	for op := range 30 {
		for n := range int64(12) {
			i := do(op)
			switch op {
			case Call:
				i.N = n % 4
			case Host:
				i.N = n
			case Jump, JumpIf:
				i.N = 12
			case Ret:
				continue
			}
			takes, puts := modelEffect(m, 1, i)
			for height := range 10 {
				code := append(times(height, ins(Push, 1)), i)
				code = append(code, times(12-len(code), do(Nop))...)
				m.Funcs[1].Code = append(code, do(Trap))
				want := noFlaw
				if height < takes {
					want = flaw(1, -1)
				}
				flaws(t, "an instruction behind some numbers", m, want)
				if got := check.Heights(m, 1); want == noFlaw && op != Jump && op != Trap && got[height+1] != height-takes+puts {
					t.Errorf("Heights(%v, 1) = %v: behind %v not %d", m, got, i, height-takes+puts)
				}
			}
		}
	}
}

func TestP13_1_TooManyNumbers(t *testing.T) {
	trap := do(Trap)
	m := mod(fn(3, 0, 0, trap), fn(0, 1, 0, trap), fn(1, 1, 0, trap))
	for _, x := range []struct {
		i      api.Ins
		height int // the greatest one ahead of it
	}{
		{do(Nop), 64}, {do(Push), 63}, {do(Drop), 64}, {do(Dup), 63}, {do(Swap), 64}, {do(Get), 63}, {do(Set), 64}, {do(Add), 64}, {do(Not), 64},
		{ins(Call, 0), 64}, {ins(Call, 1), 63}, {ins(Call, 2), 64}, {ins(Host, 2), 63}, {ins(Host, 10), 63}, {ins(Host, 3), 64}, {ins(Host, 0), 64}, {ins(JumpIf, 66), 64}, {ins(Jump, 66), 64}, {trap, 64},
	} {
		for height := 60; height <= 66; height++ {
			code := append(times(height, ins(Push, 1)), x.i)
			m.Funcs[0].Code = append(code, times(68-len(code), trap)...)
			want := noFlaw
			if height > x.height {
				want = flaw(0, -1)
			}
			flaws(t, "an instruction behind many numbers", m, want)
		}
	}
}

func TestP13_1_TwoHeights(t *testing.T) {
	bad := flaw(0, -1)
	push, drop, ret := ins(Push, 1), do(Drop), do(Ret)
	flaws(t, "a loop that puts", start(push, ins(Jump, 0)), bad)
	flaws(t, "a loop that takes", start(push, push, push, drop, ins(Jump, 3)), bad)
	flaws(t, "a loop to a greater height", start(push, ins(JumpIf, 0), push, ins(Jump, 0)), bad)
	flaws(t, "a branch that puts more", start(push, ins(JumpIf, 3), push, do(Trap)), bad)
	flaws(t, "a branch that returns with the right height alone", start(push, push, ins(JumpIf, 4), drop, ret), bad)
	flaws(t, "a JumpIf to itself", start(push, push, push, ins(JumpIf, 3), do(Trap)), bad)
	flaws(t, "a height that comes back late", start(push, push, ins(JumpIf, 5), drop, ins(Jump, 7), drop, push, do(Nop), do(Trap)), bad)
	rises(t, "a branch", start(push, ins(JumpIf, 4), push, ins(Jump, 5), push, drop, ret), 0, 1, 0, 1, 0, 1, 0)
	rises(t, "a loop that neither puts nor takes", start(push, drop, ins(Jump, 0)), 0, 1, 0)
	rises(t, "a JumpIf to the next one", start(push, ins(JumpIf, 2), ret), 0, 1, 0)
	rises(t, "a Jump to the next one", start(ins(Jump, 1), ret), 0, 0)
	rises(t, "a Jump to itself", start(ins(Jump, 0)), 0)
	rises(t, "a loop with a height", start(push, push, ins(JumpIf, 1), drop, ret), 0, 1, 2, 1, 0)
}

func TestP13_1_Returns(t *testing.T) {
	for results := range 2 {
		for height := range 5 {
			m := mod(fn(3, 0, 0, do(Ret)), fn(2, results, 0, append(times(height, ins(Push, 1)), do(Ret))...))
			want := noFlaw
			if height != results {
				want = flaw(1, -1)
			}
			flaws(t, "a return", m, want)
		}
	}
	flaws(t, "a return that isn't reached", start(do(Trap), ins(Push, 1), do(Ret)), noFlaw)
	flaws(t, "a second return with another height", mod(fn(3, 0, 0, ins(Get, 0), ins(JumpIf, 3), do(Ret), ins(Push, 1), do(Ret))), flaw(0, -1))
	flaws(t, "a trap with numbers", start(ins(Push, 1), ins(Push, 1), do(Trap)), noFlaw)
}

func TestP13_1_TheLastOne(t *testing.T) {
	for op := range 30 {
		flaws(t, "a last one that isn't reached", start(do(Trap), do(op)), noFlaw)
		switch op {
		case Jump, Ret, Trap:
			flaws(t, "a last one behind which the next one doesn't come", start(do(op)), noFlaw)
		default:
			flaws(t, "a last one behind which the next one comes", start(append(times(9, ins(Push, 0)), do(op))...), flaw(0, -1))
		}
	}
	flaws(t, "a Jump to itself", start(ins(Push, 1), ins(Jump, 1)), noFlaw)
	flaws(t, "a JumpIf back", start(ins(Push, 1), ins(JumpIf, 0)), flaw(0, -1))
	flaws(t, "the least one", start(do(Trap)), noFlaw)
	flaws(t, "the least one", start(do(Nop)), flaw(0, -1))
	flaws(t, "the longest one", start(behind(times(399, do(Nop)), do(Ret))...), noFlaw)
	flaws(t, "the longest one without an end", start(times(400, do(Nop))...), flaw(0, -1))
}

func TestP13_1_Heights(t *testing.T) {
	push := ins(Push, 1)
	rises(t, "the document's example", start(push, ins(Push, 2), do(Add), do(Drop), do(Ret)), 0, 1, 2, 1, 0)
	rises(t, "what isn't reached", start(ins(Jump, 0), do(Drop)), 0, -1)
	rises(t, "what is jumped over", start(ins(Jump, 3), do(Drop), push, do(Ret)), 0, -1, -1, 0)
	rises(t, "what is jumped over and gone back to", start(ins(Jump, 3), push, do(Trap), ins(Jump, 1)), 0, 0, 1, 0)
	rises(t, "behind a return", start(do(Ret), push), 0, -1)
	rises(t, "behind a trap", start(push, do(Trap), push, do(Ret)), 0, 1, -1, -1)
	rises(t, "as many as may be", start(behind(times(64, push), do(Trap))...), append(upTo(64), 64)...)
	m := mod(fn(3, 0, 0, ins(Host, 7), do(Dup), ins(Call, 1), ins(JumpIf, 0), do(Ret)), fn(2, 1, 1, ins(Get, 0), do(Ret)), fn(0, 0, 0, ins(Jump, 0)))
	rises(t, "calls", m, 0, 1, 2, 1, 0)
	if got := check.Heights(m, 1); !slices.Equal(got, []int{0, 1}) {
		t.Errorf("Heights of function 1 = %v", got)
	}
	if got := check.Heights(m, 2); !slices.Equal(got, []int{0}) {
		t.Errorf("Heights of function 2 = %v", got)
	}
	for _, f := range []int{-1, 3, 16, 1 << 32, math.MinInt, math.MaxInt} {
		if got := check.Heights(m, f); len(got) != 0 {
			t.Errorf("Heights of no function %d = %v", f, got)
		}
	}
	// A flaw anywhere: no heights.
	m.Funcs[2].Code = []api.Ins{do(Drop), do(Ret)}
	for f := range m.Funcs {
		if got := check.Heights(m, f); len(got) != 0 {
			t.Errorf("Heights of a module with a flaw = %v", got)
		}
	}
	if got := check.Heights(api.Module{}, 0); len(got) != 0 {
		t.Errorf("Heights of nothing = %v", got)
	}
	if got := check.Heights(mod(fn(2, 0, 0, do(Ret))), 0); len(got) != 0 {
		t.Errorf("Heights of what can't be begun = %v", got)
	}
}

// upTo are the numbers below n.
func upTo(n int) []int {
	var list []int
	for i := range n {
		list = append(list, i)
	}
	return list
}
