package swap_test

import (
	"math"
	"math/rand"
	"slices"
	"testing"

	"casement/api"
	"casement/layout"
	"casement/swap"
)

func TestP11_1_FitTable(t *testing.T) {
	a, b, c, d, e := leaf("a"), leaf("b"), leaf("c"), leaf("d"), leaf("e")
	for _, x := range []struct {
		what string
		p    api.Plan
		n    int
		want api.Plan
	}{
		// as it is said
		{"columns of two", cols(a, b), 1, cols(a)},
		{"columns of a leaf and rows", cols(a, rows(b, c)), 4, cols(a, rows(b, c, leaf("")))},
		// as many as there are
		{"a leaf", a, 1, a},
		{"a leaf that has a size", sized(fixed(4), a), 1, sized(fixed(4), a)},
		{"a tree", cols(a, sized(percent(30), rows(b, stack(c, d))), e), 5, cols(a, sized(percent(30), rows(b, stack(c, d))), e)},
		{"columns of columns of one", cols(cols(cols(a))), 1, cols(cols(cols(a)))},
		{"24 leaves", cols(rows(many(12)...), stack(many(12)...)), 24, cols(rows(many(12)...), stack(many(12)...))},
		// too many
		{"rows of three", rows(a, b, c), 2, rows(a, b)},
		{"rows of three", rows(a, b, c), 1, rows(a)},
		{"a stack of three", stack(a, b, c), 2, stack(a, b)},
		{"a stack of three", stack(a, b, c), 1, stack(a)},
		{"a leaf and rows", cols(a, rows(b, c)), 2, cols(a, rows(b))},
		{"a leaf and rows", cols(a, rows(b, c)), 1, cols(a)},
		{"a leaf and a stack", cols(a, stack(b, c)), 1, cols(a)},
		{"rows and a leaf", cols(rows(a, b), c), 2, cols(rows(a, b))},
		{"rows and a leaf", cols(rows(a, b), c), 1, cols(rows(a))},
		{"splits of one within one another", cols(a, rows(cols(rows(b)))), 1, cols(a)},
		{"several splits that go", cols(rows(a, b), rows(c), stack(d, e)), 2, cols(rows(a, b))},
		{"sizes stay", sized(fixed(9), cols(sized(fixed(3), a), sized(percent(50), rows(sized(fixed(1), b), c)))), 2, sized(fixed(9), cols(sized(fixed(3), a), sized(percent(50), rows(sized(fixed(1), b)))))},
		{"24 leaves", cols(rows(many(12)...), stack(many(12)...)), 13, cols(rows(many(12)...), stack(a))},
		{"24 leaves", cols(rows(many(12)...), stack(many(12)...)), 12, cols(rows(many(12)...))},
		{"as deep as may be", nest(rows(a, b), 10), 1, nest(rows(a), 10)},
		// too few: the last split or stack that is deepest along the last kids
		{"columns", cols(a), 3, cols(a, leaf(""), leaf(""))},
		{"a stack", stack(a, b), 3, stack(a, b, leaf(""))},
		{"a leaf behind rows", cols(rows(a, b), c), 4, cols(rows(a, b), c, leaf(""))},
		{"a deeper split that isn't the last kid", cols(rows(a, cols(b)), rows(c)), 4, cols(rows(a, cols(b)), rows(c, leaf("")))},
		{"a stack that is the last kid", cols(a, rows(b, stack(c))), 5, cols(a, rows(b, stack(c, leaf(""), leaf(""))))},
		{"sizes stay", sized(fixed(9), cols(a, sized(percent(20), rows(sized(fixed(2), b))))), 3, sized(fixed(9), cols(a, sized(percent(20), rows(sized(fixed(2), b), leaf("")))))},
		{"as deep as may be", nest(rows(a, b), 10), 16, nest(rows(append([]api.Plan{a, b}, blank(14)...)...), 10)},
		// one that is full
		{"15 kids", cols(many(15)...), 16, cols(append(many(15), leaf(""))...)},
		{"a full stack within", cols(a, stack(many(16)...)), 18, cols(a, stack(many(16)...), leaf(""))},
		{"a full stack within columns within rows", rows(a, cols(b, stack(many(16)...))), 19, rows(a, cols(b, stack(many(16)...), leaf("")))},
		{"a full stack within columns within rows", rows(a, cols(b, stack(many(16)...))), 20, rows(a, cols(b, stack(many(16)...), leaf(""), leaf("")))},
		{"one that becomes full", cols(a, rows(many(15)...)), 18, cols(a, rows(append(many(15), leaf(""))...), leaf(""))},
		{"full columns, the last of which is a split", cols(append(many(15), rows(b))...), 17, cols(append(many(15), rows(b, leaf("")))...)},
		{"full columns", cols(many(16)...), 17, rows(cols(many(16)...), leaf(""))},
		{"a full stack", stack(many(16)...), 19, rows(stack(many(16)...), leaf(""), leaf(""), leaf(""))},
		{"full columns that have a size", sized(fixed(7), cols(many(16)...)), 17, rows(sized(fixed(7), cols(many(16)...)), leaf(""))},
		{"a full split that isn't the last kid", rows(cols(many(16)...), a), 18, rows(cols(many(16)...), a, leaf(""))},
		// a leaf
		{"a leaf", a, 2, rows(a, leaf(""))},
		{"a leaf", a, 16, rows(append([]api.Plan{a}, blank(15)...)...)},
		{"a leaf", a, 17, rows(rows(append([]api.Plan{a}, blank(15)...)...), leaf(""))},
		{"a leaf", a, 24, rows(append([]api.Plan{rows(append([]api.Plan{a}, blank(15)...)...)}, blank(8)...)...)},
		{"a leaf that has a size", sized(percent(40), a), 2, rows(sized(percent(40), a), leaf(""))},
		// floating panes
		{"a leaf, floating panes", floats(a, boxes(3)...), 1, floats(a, boxes(3)...)},
		{"a leaf, floating panes", floats(a, boxes(3)...), 2, floats(rows(a, leaf("")), boxes(3)...)},
		{"a leaf, floating panes", floats(a, boxes(3)...), 21, floats(rows(append([]api.Plan{rows(append([]api.Plan{a}, blank(15)...)...)}, blank(5)...)...), boxes(3)...)},
		{"columns, floating panes", floats(cols(a, b), boxes(2)...), 1, floats(cols(a), boxes(2)...)},
		{"columns, floating panes", floats(cols(a, b), boxes(2)...), 3, floats(cols(a, b, leaf("")), boxes(2)...)},
		{"full columns, floating panes", floats(cols(many(16)...), boxes(7)...), 17, floats(rows(cols(many(16)...), leaf("")), boxes(7)...)},
		{"floating panes that have no cells", floats(a, at(0, 0, -5, math.MinInt), at(math.MaxInt, 9999, 1, 1)), 1, floats(a, at(0, 0, -5, math.MinInt), at(math.MaxInt, 9999, 1, 1))},
		{"a leaf, 23 floating panes", floats(a, boxes(23)...), 1, floats(a, boxes(23)...)},
	} {
		if got, code := swap.Fit(x.p, x.n); !same(got, x.want) || code != 0 {
			t.Errorf("Fit of %s for %d = %v, %d, not %v", x.what, x.n, got, code, x.want)
		}
		fits(t, x.p, x.n)
	}
}

func TestP11_1_WhatAKindDoesNotNameIsZero(t *testing.T) {
	inner := api.Plan{Kind: 1, Name: "a", Kids: []api.Plan{{Kind: 7}}, Float: boxes(30)}
	split := api.Plan{Kind: 3, Name: "split", Kids: []api.Plan{inner, inner}, Float: boxes(30)}
	p := api.Plan{Kind: 2, Name: "columns", Kids: []api.Plan{inner, split}, Float: boxes(2)}
	a := leaf("a")
	for i, want := range []api.Plan{cols(a), cols(a, rows(a)), cols(a, rows(a, a)), cols(a, rows(a, a, leaf("")))} {
		want.Float = boxes(2)
		if got, code := swap.Fit(p, i+1); !same(got, want) || code != 0 {
			t.Errorf("Fit for %d = %v, %d, not %v", i+1, got, code, want)
		}
	}
	inner.Float = boxes(1)
	for i, want := range []api.Plan{a, rows(a, leaf(""))} {
		want.Float = boxes(1)
		if got, code := swap.Fit(inner, i+1); !same(got, want) || code != 0 {
			t.Errorf("Fit of a leaf for %d = %v, %d, not %v", i+1, got, code, want)
		}
	}
}

func TestP11_1_FitErrors(t *testing.T) {
	a := leaf("a")
	deep := cols(append([]api.Plan{nest(a, 10)}, blank(15)...)...) // full, and as deep as may be
	for _, x := range []struct {
		what string
		p    api.Plan
		n    int
		code api.Errno
	}{
		// n
		{"0 panes", a, 0, 1},
		{"-1 panes", a, -1, 1},
		{"the least number", a, math.MinInt, 1},
		{"25 panes", a, 25, 1},
		{"25 panes of many", cols(rows(many(12)...), stack(many(12)...)), 25, 1},
		{"the greatest number", a, math.MaxInt, 1},
		{"a number beyond 32 bits", a, 1<<32 + 1, 1},
		{"23 panes, 2 floating ones", floats(a, boxes(2)...), 23, 1},
		{"the greatest number, floating panes", floats(a, boxes(5)...), math.MaxInt, 1},
		{"1 pane, 24 floating ones", floats(a, boxes(24)...), 1, 1},
		{"-1 panes, 5 floating ones", floats(a, boxes(5)...), -1, 1},
		{"1 pane, many floating ones", floats(a, boxes(1<<16)...), 1, 1},
		// n is looked at ahead of the plan
		{"0 panes of no plan", api.Plan{}, 0, 1},
		{"25 panes of no plan", api.Plan{}, 25, 1},
		{"24 panes of no plan with a floating one", floats(api.Plan{}, boxes(1)...), 24, 1},
		{"a wrong plan with 24 floating panes", floats(cols(), boxes(24)...), 1, 1},
		{"0 panes of one that is full and deep", deep, 0, 1},
		{"24 panes of one that is full and deep, with a floating one", floats(deep, boxes(1)...), 24, 1},
		// the plan
		{"no plan", api.Plan{}, 1, 100},
		{"24 panes of no plan", api.Plan{}, 24, 100},
		{"columns without kids", cols(), 1, 100},
		{"rows without kids, which would go", cols(a, rows()), 1, 100},
		{"a wrong size", sized(fixed(0), a), 1, 100},
		{"a wrong size of a leaf that would go", cols(a, sized(percent(101), a)), 1, 100},
		{"a wrong plan that would go", cols(a, stack(cols(a))), 1, 100},
		{"17 kids", cols(many(17)...), 16, 100},
		{"25 leaves", cols(rows(many(13)...), stack(many(12)...)), 24, 100},
		{"leaves and floating panes", floats(cols(rows(many(10)...), stack(many(10)...)), boxes(5)...), 19, 100},
		{"one that is too deep", nest(a, 12), 1, 100},
		{"one that is too deep and full", cols(append([]api.Plan{nest(a, 12)}, blank(15)...)...), 17, 100},
		// depth
		{"one that is full and deep", deep, 17, 4},
		{"one that is full and deep", deep, 24, 4},
		{"one that is full and deep, with floating ones", floats(deep, boxes(3)...), 17, 4},
	} {
		if got, code := swap.Fit(x.p, x.n); !same(got, api.Plan{}) || code != x.code {
			t.Errorf("Fit of %s = %v, %d, not %d", x.what, got, code, x.code)
		}
		fits(t, x.p, x.n)
	}
}

func TestP11_1_FitIsNoDeeperThanMayBe(t *testing.T) {
	a := leaf("a")
	full := func(depth int) api.Plan { return cols(append([]api.Plan{nest(a, depth-2)}, blank(15)...)...) }
	for depth := 2; depth <= 13; depth++ {
		for n := 1; n <= 24; n++ {
			want := api.OK
			if depth == 12 && n > 16 {
				want = api.ErrDeep
			}
			if depth == 13 {
				want = api.ErrLayout
			}
			got, code := fits(t, full(depth), n)
			if code != want || code != 0 && !same(got, api.Plan{}) {
				t.Errorf("Fit of a full one of depth %d for %d = %v, %d, not %d", depth, n, got, code, want)
			}
		}
	}
	// One that has room isn't made deeper.
	if got, code := swap.Fit(nest(a, 11), 12); code != 0 || !same(got, nest(cols(append([]api.Plan{a}, blank(11)...)...), 10)) {
		t.Errorf("Fit of the deepest leaf = %v, %d", got, code)
	}
}

func TestP11_1_FitOfPlansThatCannotBeGoneThrough(t *testing.T) {
	for what, p := range tangled() {
		for _, n := range []int{1, 24} {
			if got, code := swap.Fit(p, n); code != 100 || !same(got, api.Plan{}) {
				t.Errorf("Fit of a plan that is %s for %d = %d", what, n, code)
			}
		}
	}
	within := leaf("a")
	within.Kids = tangled()["within itself"].Kids
	if got, code := swap.Fit(cols(within), 2); code != 0 || !same(got, cols(leaf("a"), leaf(""))) {
		t.Errorf("Fit of a leaf whose kids are let be = %d", code)
	}
}

func TestP11_2_FitOfRandomPlans(t *testing.T) {
	rnd := rand.New(rand.NewSource(1))
	codes := map[api.Errno]int{}
	for range 4000 {
		p := somePlan(rnd)
		if rnd.Intn(3) == 0 {
			harm(rnd, &p)
		}
		for n := -1; n < 27; n++ {
			_, code := fits(t, p, n)
			codes[code]++
		}
	}
	if codes[0] < 30000 || codes[1] < 10000 || codes[4] < 20 || codes[100] < 10000 {
		t.Errorf("codes: %v", codes)
	}
}

func TestP11_2_PlansThatFitStayAsTheyAre(t *testing.T) {
	rnd := rand.New(rand.NewSource(2))
	for range 5000 {
		p := somePlan(rnd)
		n, _ := layout.Count(p)
		if n == 0 {
			continue
		}
		if got, code := swap.Fit(p, n); !same(got, p) || code != 0 {
			t.Fatalf("Fit(%v, %d) = %v, %d", p, n, got, code)
		}
	}
}

func TestP11_2_FitKeepsTheFirstNames(t *testing.T) {
	p := planOf(t, "cols { pane a; rows { pane b; stack { pane c; pane d } }; pane e }")
	names := []string{"a", "b", "c", "d", "e"}
	for n := 1; n <= 24; n++ {
		got, code := swap.Fit(p, n)
		want := append(slices.Clone(names), make([]string, 24)...)[:n]
		if has := swap.Names(got); code != 0 || layout.Check(got) != 0 || !slices.Equal(has, want) {
			t.Errorf("Fit for %d = %v, %d, whose names are %q", n, got, code, has)
		}
	}
}

func TestP11_3_FitLeavesItsPlanAndKeepsNothing(t *testing.T) {
	rnd := rand.New(rand.NewSource(3))
	for range 3000 {
		p := somePlan(rnd)
		p.Kids = append(p.Kids, leaf("behind"))[:len(p.Kids)]
		p.Float = append(p.Float, at(8, 8, 8, 8))[:len(p.Float)]
		before := copied(p)
		n := 1 + rnd.Intn(24)
		got, code := swap.Fit(p, n)
		behind, float := p.Kids[:len(p.Kids)+1][len(p.Kids)], p.Float[:len(p.Float)+1][len(p.Float)]
		if !same(p, before) || behind.Name != "behind" || float != at(8, 8, 8, 8) {
			t.Fatalf("Fit leaves %v, not %v", p, before)
		}
		want := copied(got)
		spoilPlan(p)
		if !same(got, want) {
			t.Fatalf("behind a plan that was written over: %v, not %v", got, want)
		}
		// And the other way round.
		p = copied(before)
		got, _ = swap.Fit(p, n)
		spoilPlan(got)
		if again, other := swap.Fit(p, n); !same(p, before) || !same(again, want) || other != code {
			t.Fatalf("behind an answer that was written over: %v, and of that %v, %d", p, again, other)
		}
	}
}

func TestP11_3_ListsOfFitShareNothing(t *testing.T) {
	rnd := rand.New(rand.NewSource(4))
	for range 3000 {
		// Kids that are the same ones are no longer so in the answer.
		kids := []api.Plan{leaf("a"), leaf("b")}
		p := pick(rnd, cols(rows(kids...), rows(kids...), stack(kids...)), somePlan(rnd))
		got, code := swap.Fit(p, 1+rnd.Intn(12))
		if code != 0 {
			continue
		}
		want := copied(got)
		// What is appended to one list is no other one's.
		each(got, func(kids []api.Plan) { spoil(kids[len(kids):], leaf("spoilt")) })
		spoil(got.Float[len(got.Float):], at(9, 9, 9, 9))
		if !same(got, want) {
			t.Fatalf("behind lists to which was appended: %v, not %v", got, want)
		}
	}
	kids := []api.Plan{leaf("a"), leaf("b")}
	got, _ := swap.Fit(cols(rows(kids...), rows(kids...)), 4)
	got.Kids[0].Kids[0].Name = "spoilt"
	if got.Kids[1].Kids[0].Name != "a" {
		t.Error("two lists of one answer are the same")
	}
}
