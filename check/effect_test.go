package check_test

import (
	"math"
	"testing"

	"casement/api"
	"casement/check"
	. "casement/module"
)

// effects holds Effect to what is taken and put, or to no such instruction.
func effects(t *testing.T, m api.Module, f int, i api.Ins, takes, puts int, ok bool) {
	t.Helper()
	if a, b, is := check.Effect(m, f, i); a != takes || b != puts || is != ok {
		t.Errorf("Effect(%v, %d, %v) = %d, %d, %v, not %d, %d, %v", m, f, i, a, b, is, takes, puts, ok)
	}
}

func TestP13_1_EffectOfOps(t *testing.T) {
	m := mod(fn(3, 0, 0, do(Ret)), fn(0, 1, 0, do(Ret)))
	for _, x := range []struct{ takes, puts, from, to int }{
		{0, 0, Nop, Nop}, {0, 0, Jump, Jump}, {0, 0, Trap, Trap}, {0, 1, Push, Push}, {0, 1, Get, Get},
		{1, 0, Drop, Drop}, {1, 0, Set, Set}, {1, 0, JumpIf, JumpIf}, {1, 2, Dup, Dup}, {2, 2, Swap, Swap},
		{2, 1, Add, Lt}, {1, 1, Not, Load}, {1, 1, Load8, Load8}, {2, 0, Store, Store}, {2, 0, Store8, Store8},
	} {
		for op := x.from; op <= x.to; op++ {
			// Whatever the number: Effect doesn't ask whether there is such a local or place.
			for _, n := range []int64{0, 1, -1, 16, math.MaxInt64, math.MinInt64} {
				effects(t, m, 0, ins(op, n), x.takes, x.puts, true)
				effects(t, m, 1, ins(op, n), x.takes, x.puts, true)
			}
		}
	}
	for _, op := range []int{-1, 30, 31, -30, 256, 256 + Push, 1<<32 + Push, math.MinInt, math.MaxInt} {
		effects(t, m, 0, do(op), 0, 0, false)
		effects(t, m, 1, ins(op, 1), 0, 0, false)
	}
}

func TestP13_1_EffectOfCalls(t *testing.T) {
	m := mod(fn(3, 0, 0, do(Ret)), fn(0, 1, 9, do(Trap)), fn(8, 0, 8), fn(5, 1, 0, do(Ret)))
	for f := range m.Funcs {
		effects(t, m, f, ins(Call, 0), 3, 0, true)
		effects(t, m, f, ins(Call, 1), 0, 1, true)
		effects(t, m, f, ins(Call, 2), 8, 0, true)
		effects(t, m, f, ins(Call, 3), 5, 1, true)
		for _, n := range []int64{-1, 4, 5, 15, 16, 1 << 32, -4, math.MinInt64, math.MaxInt64} {
			effects(t, m, f, ins(Call, n), 0, 0, false)
		}
		effects(t, m, f, do(Ret), m.Funcs[f].Results, 0, true)
		effects(t, m, f, ins(Ret, 3), m.Funcs[f].Results, 0, true)
	}
}

func TestP13_1_EffectOfHostCalls(t *testing.T) {
	for n, takes := range []int{3, 3, 0, 1, 1, 3, 1, 0, 1, 3, 0, 2} {
		effects(t, start(do(Ret)), 0, ins(Host, int64(n)), takes, 1, true)
	}
	for _, n := range []int64{-1, 12, 13, -12, 256, 1 << 32, math.MinInt64, math.MaxInt64} {
		effects(t, start(do(Ret)), 0, ins(Host, n), 0, 0, false)
	}
}

func TestP13_1_EffectInNoFunction(t *testing.T) {
	for _, m := range []api.Module{{}, start(do(Ret)), mod(fn(3, 0, 0), fn(0, 0, 0), fn(0, 0, 0))} {
		for _, f := range []int{-1, len(m.Funcs), len(m.Funcs) + 1, 1 << 32, -1 << 32, math.MinInt, math.MaxInt} {
			for op := -1; op <= 30; op++ {
				effects(t, m, f, do(op), 0, 0, false)
			}
		}
	}
}
