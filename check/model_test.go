package check_test

import (
	"slices"
	"testing"

	"casement/api"
	"casement/check"
	"casement/module"
)

// modelHas tells whether an op has a number.
func modelHas(op int) bool { return slices.Contains([]int{1, 5, 6, 24, 25, 26, 28}, op) }

// modelEffect is what an instruction takes and puts whose number is right.
func modelEffect(m api.Module, f int, i api.Ins) (int, int) {
	switch i.Op {
	case 26:
		return m.Funcs[i.N].Params, m.Funcs[i.N].Results
	case 27:
		return m.Funcs[f].Results, 0
	case 28:
		return []int{3, 3, 0, 1, 1, 3, 1, 0, 1, 3, 0, 2}[i.N], 1
	}
	list := [30][2]int{
		{0, 0}, {0, 1}, {1, 0}, {1, 2}, {2, 2}, {0, 1}, {1, 0},
		{2, 1}, {2, 1}, {2, 1}, {2, 1}, {2, 1}, {2, 1}, {2, 1}, {2, 1}, {2, 1}, {2, 1}, {2, 1}, {2, 1},
		{1, 1}, {1, 1}, {2, 0}, {1, 1}, {2, 0}, {0, 0}, {1, 0}, {}, {}, {}, {0, 0},
	}
	return list[i.Op][0], list[i.Op][1]
}

// spot is a place with so many numbers on the stack.
type spot struct{ at, height int }

// modelFlow goes to all spots that a function has, each with each height, and tells these places' heights; false: there
// is something wrong with one of them.
func modelFlow(m api.Module, f int) ([]int, bool) {
	code := m.Funcs[f].Code
	seen := map[spot]bool{}
	right := true
	var visit func(at, height int)
	visit = func(at, height int) {
		if at >= len(code) || height < 0 || height > 64 {
			right = false
			return
		}
		if !right || seen[spot{at, height}] {
			return
		}
		seen[spot{at, height}] = true
		i := code[at]
		takes, puts := modelEffect(m, f, i)
		if takes > height || height-takes+puts > 64 {
			right = false
			return
		}
		switch i.Op {
		case 29:
		case 27:
			right = right && height == m.Funcs[f].Results
		case 25:
			visit(int(i.N), height-1)
			visit(at+1, height-1)
		case 24:
			visit(int(i.N), height)
		default:
			visit(at+1, height-takes+puts)
		}
	}
	visit(0, 0)
	heights := slices.Repeat([]int{-1}, len(code))
	for s := range seen {
		if heights[s.at] >= 0 {
			right = false
		}
		heights[s.at] = s.height
	}
	if !right {
		return nil, false
	}
	return heights, true
}

// modelPoints tells whether an instruction's number is right.
func modelPoints(m api.Module, f int, i api.Ins) bool {
	bound := int64(-1)
	switch i.Op {
	case 5, 6:
		bound = int64(m.Funcs[f].Params + m.Funcs[f].Locals)
	case 24, 25:
		bound = int64(len(m.Funcs[f].Code))
	case 26:
		bound = int64(len(m.Funcs))
	case 28:
		bound = 12
	}
	return bound == -1 || i.N >= 0 && i.N < bound
}

// modelCheck is what Check is to answer.
func modelCheck(m api.Module) check.Flaw {
	if b, _ := module.Encode(m); len(b) == 0 {
		return check.Flaw{Func: -1, Ins: -1, Code: 1}
	}
	if m.Funcs[0].Params != 3 || m.Funcs[0].Results != 0 {
		return check.Flaw{Func: 0, Ins: -1, Code: 1}
	}
	for f := range m.Funcs {
		for at, i := range m.Funcs[f].Code {
			if !modelPoints(m, f, i) {
				return flaw(f, at)
			}
		}
		if _, right := modelFlow(m, f); !right {
			return flaw(f, -1)
		}
	}
	return noFlaw
}

// checks holds Check and Heights to the model, and tells the flaw.
func checks(t *testing.T, m api.Module) check.Flaw {
	t.Helper()
	got, want := check.Check(m), modelCheck(m)
	if got != want {
		t.Fatalf("Check(%v) = %v, not %v", m, got, want)
	}
	for f := -1; f <= min(len(m.Funcs), 20); f++ {
		var heights []int
		if want == noFlaw && f >= 0 && f < len(m.Funcs) {
			heights, _ = modelFlow(m, f)
		}
		if got := check.Heights(m, f); !slices.Equal(got, heights) {
			t.Fatalf("Heights(%v, %d) = %v, not %v", m, f, got, heights)
		}
	}
	return got
}
