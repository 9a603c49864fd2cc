package layout_test

import (
	"math"
	"math/rand"
	"slices"
	"testing"

	"casement/api"
	"casement/layout"
)

// grown is a right plan of so many leaves.
func grown(n int) api.Plan {
	return cols(rows(many(n/2)...), stack(many(n-n/2)...))
}

// boxes are n floating panes.
func boxes(n int) []api.Rect { return slices.Repeat([]api.Rect{at(1, 1, 5, 5)}, n) }

func TestP10_1_CheckAndCountTable(t *testing.T) {
	for _, x := range []struct {
		what           string
		p              api.Plan
		right          bool
		leaves, floats int
	}{
		{"a leaf", leaf("a"), true, 1, 0},
		{"a leaf, and floating panes", floats(leaf("a"), boxes(2)...), true, 1, 2},
		{"columns", cols(leaf("a"), leaf("b")), true, 2, 0},
		{"rows", rows(leaf("a"), leaf("b"), leaf("c")), true, 3, 0},
		{"a stack", stack(leaf("a"), leaf("b"), leaf("c")), true, 3, 0},
		{"a tree", floats(cols(leaf("a"), rows(leaf("b"), stack(leaf("c"), leaf("d"))), cols(leaf("e"))), empty), true, 5, 1},
		// kinds
		{"no kind", api.Plan{}, false, 0, 0},
		{"kind 5", api.Plan{Kind: 5, Kids: many(1)}, false, 0, 0},
		{"kind -1", api.Plan{Kind: -1, Kids: many(1)}, false, 0, 0},
		{"a kind beyond 32 bits", api.Plan{Kind: 1<<32 + 1}, false, 0, 0},
		{"the greatest kind", api.Plan{Kind: math.MaxInt}, false, 0, 0},
		{"a kid of no kind", cols(leaf("a"), api.Plan{}), false, 0, 0},
		{"a kid of kind 5", rows(leaf("a"), cols(api.Plan{Kind: 5})), false, 0, 0},
		// how many kids
		{"columns without kids", cols(), false, 0, 0},
		{"rows without kids", api.Plan{Kind: 3, Kids: []api.Plan{}}, false, 0, 0},
		{"a stack without kids", stack(), false, 0, 0},
		{"rows without kids within", cols(leaf("a"), rows()), false, 0, 0},
		{"columns of one", cols(leaf("a")), true, 1, 0},
		{"a stack of one", stack(leaf("a")), true, 1, 0},
		{"columns of 16", cols(many(16)...), true, 16, 0},
		{"rows of 16", rows(many(16)...), true, 16, 0},
		{"a stack of 16", stack(many(16)...), true, 16, 0},
		{"columns of 17", cols(many(17)...), false, 0, 0},
		{"rows of 17", rows(many(17)...), false, 0, 0},
		{"a stack of 17", stack(many(17)...), false, 0, 0},
		{"columns of 17 within", rows(leaf("a"), cols(many(17)...)), false, 0, 0},
		// a stack's kids
		{"columns in a stack", stack(leaf("a"), cols(leaf("b"))), false, 0, 0},
		{"rows in a stack", stack(rows(leaf("b"))), false, 0, 0},
		{"a stack in a stack", stack(stack(leaf("b"))), false, 0, 0},
		{"no kind in a stack", stack(leaf("a"), api.Plan{}), false, 0, 0},
		// sizes
		{"a Fixed one", sized(fixed(200), leaf("a")), true, 1, 0},
		{"a Fixed one of 0", sized(fixed(0), leaf("a")), false, 0, 0},
		{"a Fixed one of 201", sized(fixed(201), leaf("a")), false, 0, 0},
		{"a Percent one", sized(percent(100), leaf("a")), true, 1, 0},
		{"a Percent one of 0", sized(percent(0), leaf("a")), false, 0, 0},
		{"a Percent one of 101", sized(percent(101), leaf("a")), false, 0, 0},
		{"a Flex one of -7", sized(api.Size{N: -7}, leaf("a")), true, 1, 0},
		{"a size of kind 3", sized(api.Size{Kind: 3, N: 1}, leaf("a")), false, 0, 0},
		{"a wrong size of columns", sized(fixed(0), cols(leaf("a"))), false, 0, 0},
		{"a wrong size within", cols(leaf("a"), rows(leaf("b"), sized(fixed(0), leaf("c")))), false, 0, 0},
		{"a wrong size of rows within", cols(leaf("a"), sized(percent(-1), rows(leaf("b")))), false, 0, 0},
		{"a wrong size within a stack", stack(sized(fixed(201), leaf("b")), leaf("a")), false, 0, 0},
		{"sizes that want too much", cols(sized(fixed(200), leaf("b")), sized(fixed(200), leaf("a"))), true, 2, 0},
		// depth
		{"a leaf within 11", nest(leaf("a"), 11), true, 1, 0},
		{"a leaf within 12", nest(leaf("a"), 12), false, 0, 0},
		{"a leaf within 13", nest(leaf("a"), 13), false, 0, 0},
		{"a leaf within 60000", nest(leaf("a"), 60000), false, 0, 0},
		{"a stack within 10", nest(stack(leaf("a"), leaf("b")), 10), true, 2, 0},
		{"a stack within 11", nest(stack(leaf("a"), leaf("b")), 11), false, 0, 0},
		{"a second kid within 12", rows(leaf("a"), nest(leaf("b"), 11)), false, 0, 0},
		// how many panes
		{"24 leaves", grown(24), true, 24, 0},
		{"25 leaves", grown(25), false, 0, 0},
		{"1 leaf, 23 floating panes", floats(leaf("a"), boxes(23)...), true, 1, 23},
		{"1 leaf, 24 floating panes", floats(leaf("a"), boxes(24)...), false, 0, 0},
		{"20 leaves, 4 floating panes", floats(grown(20), boxes(4)...), true, 20, 4},
		{"20 leaves, 5 floating panes", floats(grown(20), boxes(5)...), false, 0, 0},
		{"a leaf, many floating panes", floats(leaf("a"), boxes(1<<20)...), false, 0, 0},
		{"floating panes that have no cells", floats(leaf("a"), empty, at(0, 0, -5, math.MinInt), at(math.MaxInt, 9999, 1, 1)), true, 1, 3},
		// what a kind doesn't name
		{"a leaf with kids", api.Plan{Kind: 1, Kids: many(3)}, true, 1, 0},
		{"a leaf with wrong kids", cols(api.Plan{Kind: 1, Kids: []api.Plan{{Kind: 7}}}, api.Plan{Kind: 1, Kids: many(99)}), true, 2, 0},
		{"a stack of leaves with kids", stack(api.Plan{Kind: 1, Kids: []api.Plan{stack()}}), true, 1, 0},
		{"names of splits", api.Plan{Kind: 2, Name: "a", Kids: []api.Plan{{Kind: 4, Name: "b", Kids: many(2)}}}, true, 2, 0},
		{"floating panes within", cols(floats(leaf("a"), boxes(99)...), floats(rows(leaf("b")), boxes(7)...)), true, 2, 0},
	} {
		want := api.ErrLayout
		if x.right {
			want = api.OK
		}
		if got := layout.Check(x.p); got != want {
			t.Errorf("Check of %s = %d, not %d", x.what, got, want)
		}
		if n, m := layout.Count(x.p); n != x.leaves || m != x.floats {
			t.Errorf("Count of %s = %d, %d, not %d, %d", x.what, n, m, x.leaves, x.floats)
		}
		if got := layout.Place(x.p, at(3, 4, 50, 60)); len(got) != x.leaves+x.floats {
			t.Errorf("Place of %s = %d spots", x.what, len(got))
		}
		checks(t, x.p)
	}
}

func TestP10_1_RandomPlansAreChecked(t *testing.T) {
	rnd := rand.New(rand.NewSource(1))
	right := 0
	for range 20000 {
		p := somePlan(rnd)
		checks(t, p)
		for range 1 + rnd.Intn(3) {
			harm(rnd, &p)
			checks(t, p)
		}
		if modelRight(p) {
			right++
		}
	}
	if right < 4000 || right > 16000 {
		t.Errorf("%d right ones of 20000", right)
	}
}

// tangled are plans that can't be gone through: they are within themselves, or have kids that are the same ones again and again.
func tangled() map[string]api.Plan {
	circle := many(2)
	circle[1] = cols(circle...)
	first := many(2)
	first[0] = rows(first...)
	shared := leaf("")
	for range 40 {
		shared = cols(slices.Repeat([]api.Plan{shared}, 16)...)
	}
	bare := cols()
	for range 11 {
		bare = cols(slices.Repeat([]api.Plan{bare}, 16)...)
	}
	wide := leaf("")
	for range 5 {
		wide = cols(slices.Repeat([]api.Plan{wide}, 1<<14)...)
	}
	lines := leaf("")
	for range 11 {
		lines = rows(slices.Repeat([]api.Plan{lines}, 16)...)
	}
	return map[string]api.Plan{
		"within itself":             circle[1],
		"within itself, first":      first[0],
		"shared":                    shared,
		"shared, without leaf":      bare,
		"shared, very wide":         wide,
		"shared, as deep as may be": lines,
		"very deep":                 nest(leaf(""), 60000),
		"a wide stack":              stack(many(1 << 14)...),
	}
}

func TestP10_1_PlansThatCannotBeGoneThrough(t *testing.T) {
	for what, p := range tangled() {
		n, m := layout.Count(p)
		if code := layout.Check(p); code != 100 || n != 0 || m != 0 {
			t.Errorf("Check and Count of a plan that is %s = %d, %d, %d", what, code, n, m)
		}
		if got := layout.Place(p, at(0, 0, 10, 10)); len(got) != 0 {
			t.Errorf("Place of a plan that is %s = %v", what, got)
		}
	}
	within := leaf("a")
	within.Kids = tangled()["within itself"].Kids
	if n, _ := layout.Count(cols(within)); n != 1 {
		t.Errorf("a leaf whose kids are let be: %d leaves", n)
	}
}

func TestP10_3_CheckAndCountLeaveTheirPlan(t *testing.T) {
	rnd := rand.New(rand.NewSource(2))
	for range 3000 {
		p := somePlan(rnd)
		if rnd.Intn(2) == 0 {
			harm(rnd, &p)
		}
		before := copied(p)
		layout.Check(p)
		layout.Count(p)
		if !same(p, before) {
			t.Fatalf("Check and Count leave %v, not %v", p, before)
		}
	}
}
