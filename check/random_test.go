package check_test

import (
	"math/rand"
	"slices"
	"testing"

	"casement/api"
	"casement/check"
	. "casement/module"
)

func TestP13_1_AllSmallPrograms(t *testing.T) {
	list := []api.Ins{
		do(Nop), ins(Push, 5), do(Drop), do(Dup), do(Swap), ins(Get, 2), ins(Get, 3), ins(Set, 0), do(Add), do(Not), do(Store),
		ins(Jump, 0), ins(Jump, 2), ins(Jump, 3), ins(JumpIf, 0), ins(JumpIf, 2), ins(JumpIf, 4), ins(Call, 1), do(Ret), ins(Host, 9), ins(Host, 10), do(Trap),
	}
	right := 0
	var go4 func(code []api.Ins, n int)
	go4 = func(code []api.Ins, n int) {
		if n == 0 {
			if checks(t, mod(fn(3, 0, 0, code...), fn(1, 1, 0, ins(Get, 0), do(Ret)))) == noFlaw {
				right++
			}
			return
		}
		for _, i := range list {
			go4(append(code, i), n-1)
		}
	}
	for n := 1; n <= 3; n++ {
		go4(nil, n)
	}
	if right < 1000 {
		t.Errorf("only %d right ones", right)
	}
}

func TestP13_1_RightModules(t *testing.T) {
	rnd := rand.New(rand.NewSource(1))
	deep := 0
	for range 5000 {
		m, all := rightModule(rnd)
		got := check.Check(m)
		if got == (check.Flaw{Func: -1, Ins: -1, Code: 1}) {
			continue // too long
		}
		if got != noFlaw {
			t.Fatalf("Check(%v) = %v", m, got)
		}
		for f, heights := range all {
			if got := check.Heights(m, f); !slices.Equal(got, heights) {
				t.Fatalf("Heights(%v, %d) = %v, not %v", m, f, got, heights)
			}
			deep = max(deep, slices.Max(heights))
		}
	}
	if deep < 20 {
		t.Errorf("no deep stack: %d", deep)
	}
}

func TestP13_1_RandomModules(t *testing.T) {
	rnd := rand.New(rand.NewSource(2))
	codes := map[check.Flaw]int{}
	for range 12000 {
		m, _ := rightModule(rnd)
		for range rnd.Intn(3) {
			harm(rnd, &m)
			if slices.ContainsFunc(m.Funcs, func(f api.Func) bool { return len(f.Code) == 0 }) {
				break
			}
		}
		got := checks(t, m)
		codes[check.Flaw{Func: min(got.Func, 1), Ins: min(got.Ins, 1), Code: got.Code}]++
	}
	for _, f := range []check.Flaw{noFlaw, {Func: -1, Ins: -1, Code: 1}, {Func: 0, Ins: -1, Code: 1}, flaw(0, 0), flaw(0, 1), flaw(0, -1), flaw(1, 0), flaw(1, 1), flaw(1, -1)} {
		if codes[f] < 20 {
			t.Errorf("few of %v: %v", f, codes)
		}
	}
}

func TestP13_1_StacksNeverRunOutNorOver(t *testing.T) {
	rnd := rand.New(rand.NewSource(3))
	for range 2000 {
		m, _ := rightModule(rnd)
		if check.Check(m) != noFlaw {
			continue
		}
		f := rnd.Intn(len(m.Funcs))
		heights := check.Heights(m, f)
		at, height := 0, 0
		for range 500 {
			i := m.Funcs[f].Code[at]
			takes, puts, _ := check.Effect(m, f, i)
			if heights[at] != height || height < takes || height-takes+puts > 64 {
				t.Fatalf("at %d of function %d of %v: %d numbers, not %d", at, f, m, height, heights[at])
			}
			height += puts - takes
			if i.Op == Ret || i.Op == Trap {
				break
			}
			at++
			if i.Op == Jump || i.Op == JumpIf && rnd.Intn(2) == 0 {
				at = int(i.N)
			}
		}
	}
}

// gaps are the places of a function ahead of which nothing is reached that is put in.
func gaps(code []api.Ins) []int {
	var list []int
	for at, i := range code {
		if i.Op == Jump || i.Op == Ret || i.Op == Trap {
			list = append(list, at+1)
		}
	}
	return list
}

// putIn puts instructions in, so that all that jump, jump to where they did.
func putIn(rnd *rand.Rand, m *api.Module, f, at, n int) {
	var code []api.Ins
	for _, i := range m.Funcs[f].Code {
		if (i.Op == Jump || i.Op == JumpIf) && i.N >= int64(at) {
			i.N += int64(n)
		}
		code = append(code, i)
	}
	var more []api.Ins
	for range n {
		more = append(more, someIns(rnd, *m, f, len(code)+n))
	}
	m.Funcs[f].Code = slices.Insert(code, at, more...)
}

func TestP13_2_WhatIsNotReachedChangesNothing(t *testing.T) {
	rnd := rand.New(rand.NewSource(4))
	right, wrong := 0, 0
	for range 8000 {
		m, _ := rightModule(rnd)
		if rnd.Intn(2) == 0 {
			harm(rnd, &m)
		}
		want := check.Check(m)
		f := rnd.Intn(len(m.Funcs))
		places := gaps(m.Funcs[f].Code)
		if want != noFlaw && want != flaw(want.Func, -1) || len(places) == 0 {
			continue
		}
		var heights [][]int
		for f := range m.Funcs {
			heights = append(heights, check.Heights(m, f))
		}
		at, n := pick(rnd, places...), 1+rnd.Intn(6)
		before := m
		m = copied(m)
		putIn(rnd, &m, f, at, n)
		got := check.Check(m)
		if got.Func == -1 {
			continue // too long
		}
		if got != want {
			t.Fatalf("Check(%v) = %v; with %d instructions put in at %d of function %d (%v): %v", before, want, n, at, f, m, got)
		}
		if want != noFlaw {
			wrong++
			continue
		}
		right++
		heights[f] = slices.Insert(heights[f], at, slices.Repeat([]int{-1}, n)...)
		for f := range m.Funcs {
			if got := check.Heights(m, f); !slices.Equal(got, heights[f]) {
				t.Fatalf("Heights(%v, %d) = %v, not %v", m, f, got, heights[f])
			}
		}
	}
	if right < 2000 || wrong < 500 {
		t.Errorf("%d right ones, %d wrong ones", right, wrong)
	}
}

func TestP13_2_Examples(t *testing.T) {
	push := ins(Push, 1)
	for _, more := range [][]api.Ins{
		{do(Drop)}, {do(Ret)}, times(70, push), {push, do(Ret)}, {ins(Jump, 0)}, {push, ins(Jump, 0)}, {do(Swap), do(Add), ins(JumpIf, 1)}, {ins(Host, 9)}, {ins(Call, 0)}, {do(Nop)}, {do(Trap)}, times(380, do(Store8)),
	} {
		flaws(t, "what stands behind the end", start(behind([]api.Ins{push, do(Drop), do(Ret)}, more...)...), noFlaw)
		m := start(behind(behind([]api.Ins{push, ins(Jump, int64(2+len(more)))}, more...), do(Drop), do(Ret))...)
		rises(t, "what is jumped over", m, slices.Concat([]int{0, 1}, slices.Repeat([]int{-1}, len(more)), []int{1, 0})...)
		// And none heals a flaw.
		flaws(t, "what stands behind a flaw", start(behind([]api.Ins{push, do(Ret)}, more...)...), flaw(0, -1))
	}
}

func TestP13_3_TheModuleStays(t *testing.T) {
	rnd := rand.New(rand.NewSource(5))
	for range 2000 {
		m, _ := rightModule(rnd)
		if rnd.Intn(3) == 0 {
			harm(rnd, &m)
		}
		m.Mem = 100
		m.Data = append([]byte("data"), 77)[:4]
		m.Funcs = append(m.Funcs, fn(7, 7, 7))[:len(m.Funcs)]
		for i, f := range m.Funcs {
			m.Funcs[i].Code = append(f.Code, ins(77, 77))[:len(f.Code)]
		}
		before := copied(m)
		check.Check(m)
		f := rnd.Intn(len(m.Funcs))
		check.Heights(m, f)
		check.Effect(m, f, someIns(rnd, m, f, 9))
		if !same(m, before) || m.Data[:5][4] != 77 || !sameFunc(m.Funcs[:len(m.Funcs)+1][len(m.Funcs)], fn(7, 7, 7)) {
			t.Fatalf("a module that is looked at becomes %v, not %v", m, before)
		}
		for _, f := range m.Funcs {
			if f.Code[:len(f.Code)+1][len(f.Code)] != ins(77, 77) {
				t.Fatal("what is behind a function's code is another")
			}
		}
	}
}

func TestP13_3_HeightsAreNew(t *testing.T) {
	rnd := rand.New(rand.NewSource(6))
	for range 2000 {
		m, _ := rightModule(rnd)
		f := rnd.Intn(len(m.Funcs))
		before := copied(m)
		first := check.Heights(m, f)
		want := slices.Clone(first)
		second := check.Heights(m, f)
		spoil(first, 99)
		if third := check.Heights(m, f); !slices.Equal(second, want) || !slices.Equal(third, want) || !same(m, before) {
			t.Fatalf("behind heights that were written over: %v, %v, not %v", second, third, want)
		}
		// They aren't the module's either.
		for i := range m.Funcs {
			spoil(m.Funcs[i].Code, do(Trap))
		}
		if !slices.Equal(second, want) {
			t.Fatalf("behind a module that was written over: %v, not %v", second, want)
		}
	}
}
