package layout_test

import (
	"math"
	"math/rand"
	"slices"
	"testing"

	"casement/api"
	"casement/layout"
	"casement/rect"
)

// spot is a leaf's, whose number is its place in the list.
func spot(r api.Rect) api.Spot { return api.Spot{Rect: r} }

// title is a title's.
func title(r api.Rect) api.Spot { return api.Spot{Rect: r, Title: true} }

// float is a floating pane's.
func float(z int, r api.Rect) api.Spot { return api.Spot{Rect: r, Z: z} }

func TestP10_1_PlaceTable(t *testing.T) {
	a, b, c := leaf("a"), leaf("b"), leaf("c")
	screen := at(0, 0, 10, 5)
	for _, x := range []struct {
		p     api.Plan
		r     api.Rect
		spots []api.Spot
	}{
		{cols(sized(fixed(4), a), rows(b, c)), screen, []api.Spot{spot(at(0, 0, 4, 5)), spot(at(4, 0, 6, 3)), spot(at(4, 3, 6, 2))}},
		{a, screen, []api.Spot{spot(screen)}},
		{sized(fixed(3), a), screen, []api.Spot{spot(screen)}}, // the outermost plan has all of it
		{sized(percent(10), cols(a, b)), screen, []api.Spot{spot(at(0, 0, 5, 5)), spot(at(5, 0, 5, 5))}},
		{cols(a, b, c), at(-3, 7, 10, 5), []api.Spot{spot(at(-3, 7, 4, 5)), spot(at(1, 7, 3, 5)), spot(at(4, 7, 3, 5))}},
		{rows(a, b, c), at(-3, 7, 10, 5), []api.Spot{spot(at(-3, 7, 10, 2)), spot(at(-3, 9, 10, 2)), spot(at(-3, 11, 10, 1))}},
		{cols(sized(percent(50), a), sized(fixed(2), b), c), screen, []api.Spot{spot(at(0, 0, 5, 5)), spot(at(5, 0, 2, 5)), spot(at(7, 0, 3, 5))}},
		{rows(sized(fixed(1), a), sized(fixed(1), b)), screen, []api.Spot{spot(at(0, 0, 10, 1)), spot(at(0, 1, 10, 4))}},
		{rows(sized(fixed(200), a), sized(fixed(200), b)), screen, []api.Spot{spot(at(0, 0, 10, 4)), spot(at(0, 4, 10, 1))}},
		// numbers from left to right, through all depths
		{cols(rows(a, cols(b, c)), a), at(0, 0, 4, 2), []api.Spot{spot(at(0, 0, 2, 1)), spot(at(0, 1, 1, 1)), spot(at(1, 1, 1, 1)), spot(at(2, 0, 2, 2))}},
		// just as many cells as kids, and fewer
		{cols(a, sized(fixed(9), b), c), at(2, 2, 3, 1), []api.Spot{spot(at(2, 2, 1, 1)), spot(at(3, 2, 1, 1)), spot(at(4, 2, 1, 1))}},
		{cols(a, sized(fixed(9), b), c), at(2, 2, 2, 4), []api.Spot{spot(at(2, 2, 1, 4)), spot(at(3, 2, 1, 4)), spot(empty)}},
		{cols(a, sized(fixed(9), b), c), at(2, 2, 1, 9), []api.Spot{spot(at(2, 2, 1, 9)), spot(empty), spot(empty)}},
		{rows(sized(fixed(9), a), b, c), at(2, 2, 9, 2), []api.Spot{spot(at(2, 2, 9, 1)), spot(at(2, 3, 9, 1)), spot(empty)}},
		{rows(a, b, c), at(2, 2, 1, 1), []api.Spot{spot(at(2, 2, 1, 1)), spot(empty), spot(empty)}},
		{cols(a, b, rows(a, stack(b, c))), at(0, 0, 2, 2), []api.Spot{spot(at(0, 0, 1, 2)), spot(at(1, 0, 1, 2)), spot(empty), title(empty), spot(empty)}},
		{rows(a, b, c), empty, []api.Spot{spot(empty), spot(empty), spot(empty)}},
		// stacks
		{stack(a), screen, []api.Spot{spot(screen)}},
		{stack(a, b, c), screen, []api.Spot{title(at(0, 0, 10, 1)), title(at(0, 1, 10, 1)), spot(at(0, 2, 10, 3))}},
		{stack(a, b, c), at(3, 4, 1, 4), []api.Spot{title(at(3, 4, 1, 1)), title(at(3, 5, 1, 1)), spot(at(3, 6, 1, 2))}},
		{stack(a, b, c), at(3, 4, 1, 3), []api.Spot{title(at(3, 4, 1, 1)), title(at(3, 5, 1, 1)), spot(at(3, 6, 1, 1))}},
		{stack(a, b, c), at(3, 4, 9, 2), []api.Spot{title(at(3, 4, 9, 1)), title(empty), spot(at(3, 5, 9, 1))}},
		{stack(a, b, c), at(3, 4, 9, 1), []api.Spot{title(empty), title(empty), spot(at(3, 4, 9, 1))}},
		{stack(a, b, c), empty, []api.Spot{title(empty), title(empty), spot(empty)}},
		{stack(sized(fixed(3), a), sized(percent(50), b)), screen, []api.Spot{title(at(0, 0, 10, 1)), spot(at(0, 1, 10, 4))}},
		{cols(stack(a, b), c), screen, []api.Spot{title(at(0, 0, 5, 1)), spot(at(0, 1, 5, 4)), spot(at(5, 0, 5, 5))}},
		// rectangles that are cleaned
		{a, at(4990, -9999, 300, 300), []api.Spot{spot(at(4990, -5000, 10, 200))}},
		{cols(a, b), at(0, 0, 999, 1), []api.Spot{spot(at(0, 0, 100, 1)), spot(at(100, 0, 100, 1))}},
		{cols(a, b), at(math.MinInt, math.MinInt, math.MaxInt, math.MaxInt), []api.Spot{spot(at(-5000, -5000, 100, 200)), spot(at(-4900, -5000, 100, 200))}},
		{a, at(3, 3, 0, 9), []api.Spot{spot(empty)}},
		{stack(a, b), at(3, 3, 9, -1), []api.Spot{title(empty), spot(empty)}},
		{cols(a, b), at(5000, 3, 9, 9), []api.Spot{spot(empty), spot(empty)}},
		// floating panes: moved as the outermost one lies, and into it
		{floats(a, at(8, 1, 4, 2), at(0, 0, 99, 1), at(-5, -5, 2, 2)), at(2, 2, 10, 5), []api.Spot{spot(at(2, 2, 10, 5)), float(1, at(8, 3, 4, 2)), float(2, at(2, 2, 10, 1)), float(3, at(2, 2, 2, 2))}},
		{floats(cols(a, stack(b, c)), at(1, 1, 2, 2)), screen, []api.Spot{spot(at(0, 0, 5, 5)), title(at(5, 0, 5, 1)), spot(at(5, 1, 5, 4)), float(1, at(1, 1, 2, 2))}},
		{floats(a, at(1, 1, 2, 2), at(1, 1, 2, 2)), at(-20, 30, 10, 5), []api.Spot{spot(at(-20, 30, 10, 5)), float(1, at(-19, 31, 2, 2)), float(2, at(-19, 31, 2, 2))}},
		{floats(a, empty, at(3, 3, 0, 5), at(1, 1, 1, 1)), at(2, 2, 10, 5), []api.Spot{spot(at(2, 2, 10, 5)), float(1, empty), float(2, empty), float(3, at(3, 3, 1, 1))}},
		{floats(a, at(1, 1, 1, 1)), empty, []api.Spot{spot(empty), float(1, empty)}},
		{floats(a, at(1, 1, 1, 1)), at(7, 7, 0, 7), []api.Spot{spot(empty), float(1, empty)}},
		{floats(a, at(math.MaxInt, math.MinInt, 3, math.MaxInt), at(4000, 4000, 3, 2)), at(2, 2, 10, 5), []api.Spot{spot(at(2, 2, 10, 5)), float(1, empty), float(2, at(9, 5, 3, 2))}},
		{floats(a, at(4990, 0, 3, 2), at(4989, 0, 3, 2)), at(10, 2, 10, 5), []api.Spot{spot(at(10, 2, 10, 5)), float(1, empty), float(2, at(19, 2, 1, 2))}}, // as layer 2 moves
		{cols(floats(a, at(1, 1, 1, 1)), b), screen, []api.Spot{spot(at(0, 0, 5, 5)), spot(at(5, 0, 5, 5))}},
		// plans that aren't right
		{api.Plan{}, screen, nil}, {cols(), screen, nil}, {cols(a, sized(fixed(0), b)), screen, nil}, {stack(cols(a)), screen, nil}, {floats(a, boxes(24)...), screen, nil},
	} {
		for i := range x.spots {
			x.spots[i].Pane = i
		}
		if got := layout.Place(x.p, x.r); !slices.Equal(got, x.spots) {
			t.Errorf("Place(%v, %v) = %v, not %v", x.p, x.r, got, x.spots)
		}
		places(t, x.p, x.r)
	}
}

// screens are rectangles of all small sizes, and a few others.
func screens(yield func(r api.Rect)) {
	for w := range 9 {
		for h := range 9 {
			yield(at(w-3, 2*h, w, h))
		}
	}
	for _, r := range []api.Rect{at(0, 0, 80, 24), at(-7, 3, 200, 200), at(4995, 4999, 50, 50), at(-5000, -5000, 33, 1), at(1, 1, 1, 200)} {
		yield(r)
	}
}

func TestP10_1_RandomPlansArePlaced(t *testing.T) {
	rnd := rand.New(rand.NewSource(7))
	for range 2500 {
		p := somePlan(rnd)
		screens(func(r api.Rect) { places(t, p, r) })
		harm(rnd, &p)
		places(t, p, somewhere(rnd))
	}
}

func TestP10_1_ManyKidsArePlaced(t *testing.T) {
	rnd := rand.New(rand.NewSource(8))
	for range 300 {
		p := api.Plan{Kind: 2 + rnd.Intn(3)}
		for range 10 + rnd.Intn(8) {
			p.Kids = append(p.Kids, sized(someSize(rnd), leaf("")))
		}
		for side := range 25 {
			places(t, p, at(1, 2, side, 3))
			places(t, p, at(1, 2, 3, side))
		}
	}
}

// roomy tells whether each split of a plan has room, as it is laid.
func roomy(p api.Plan, r api.Rect) bool {
	side := r.W
	if p.Kind == 3 {
		side = r.H
	}
	if p.Kind == 1 || p.Kind == 4 {
		return r.W > 0
	}
	if side < len(p.Kids) {
		return false
	}
	begin := 0
	for i, n := range modelLengths(p.Kids, side) {
		part := at(r.X+begin, r.Y, n, r.H)
		if p.Kind == 3 {
			part = at(r.X, r.Y+begin, r.W, n)
		}
		if !roomy(p.Kids[i], part) {
			return false
		}
		begin += n
	}
	return true
}

func TestP10_2_LeavesShareNoCellAndHaveAll(t *testing.T) {
	rnd := rand.New(rand.NewSource(9))
	full := 0
	for range 2500 {
		p := somePlan(rnd)
		leaves, _ := layout.Count(p)
		screens(func(r api.Rect) {
			r = rect.Clean(r)
			spots := layout.Place(p, r)
			area := 0
			for i, s := range spots {
				if !rect.Within(s.Rect, r) || rect.Clean(s.Rect) != s.Rect {
					t.Fatalf("Place(%v, %v): %v lies not in it", p, r, s)
				}
				if i >= leaves {
					continue
				}
				area += s.Rect.W * s.Rect.H
				for _, other := range spots[:i] {
					if rect.Meet(s.Rect, other.Rect) != empty {
						t.Fatalf("Place(%v, %v): %v and %v share cells", p, r, s, other)
					}
				}
			}
			if leaves > 0 && roomy(p, r) {
				full++
				if area != r.W*r.H {
					t.Fatalf("Place(%v, %v): %v have %d cells", p, r, spots, area)
				}
			}
		})
	}
	if full < 50000 {
		t.Errorf("only %d plans had room", full)
	}
}

func TestP10_1_AtTable(t *testing.T) {
	two := []api.Spot{{Pane: 4, Rect: at(0, 0, 5, 5)}, {Pane: 7, Rect: at(2, 2, 5, 5), Z: 1}}
	back := []api.Spot{two[1], two[0]}
	like := []api.Spot{{Pane: 1, Rect: at(0, 0, 5, 5), Z: 3}, {Pane: 2, Rect: at(0, 0, 5, 5), Z: 3}, {Pane: 3, Rect: at(0, 0, 5, 5), Z: 2}}
	low := []api.Spot{{Pane: 1, Rect: at(0, 0, 5, 5), Z: math.MinInt}, {Pane: 2, Rect: at(0, 0, 3, 3), Z: -5}, {Pane: 3, Rect: at(0, 0, 1, 1), Z: math.MaxInt}}
	wide := []api.Spot{{Pane: 5, Rect: at(-9999, 0, 999, 1)}, {Pane: 6, Rect: at(9, 9, -5, 5), Z: 9}, {Pane: 7, Rect: at(0, 0, 0, 5), Z: 9}}
	var row []api.Spot
	for i := range 40 {
		row = append(row, api.Spot{Pane: 100 + i, Rect: at(i, 0, 1, 1)}, api.Spot{})
	}
	cover := append(slices.Repeat([]api.Spot{{Pane: 1, Rect: at(0, 0, 5, 5)}}, 24), api.Spot{Pane: 2, Rect: at(0, 0, 9, 9), Z: 5})
	for _, x := range []struct {
		spots []api.Spot
		x, y  int
		out   int
	}{
		{nil, 0, 0, -1}, {[]api.Spot{}, 0, 0, -1}, {[]api.Spot{{}}, 0, 0, -1}, {[]api.Spot{{Pane: 3, Z: 3, Title: true}}, 0, 0, -1},
		{two, 1, 1, 4}, {two, 0, 0, 4}, {two, 4, 1, 4}, {two, 3, 3, 7}, {two, 4, 4, 7}, {two, 2, 2, 7}, {two, 6, 6, 7}, {two, 5, 1, -1}, {two, 7, 7, -1}, {two, 9, 9, -1}, {two, -1, 0, -1}, {two, 0, -1, -1},
		{two, math.MaxInt, 3, -1}, {two, 3, math.MinInt, -1},
		{back, 1, 1, 4}, {back, 3, 3, 7}, // the greatest Z, wherever it stands
		{like, 1, 1, 2}, {like[:1], 1, 1, 1}, {[]api.Spot{like[2], like[1], like[0]}, 1, 1, 1}, {[]api.Spot{like[1], like[0], like[2]}, 4, 4, 1},
		{low, 4, 4, 1}, {low, 2, 2, 2}, {low, 0, 0, 3}, {low, 5, 5, -1}, {low[:1], 0, 0, 1},
		{[]api.Spot{{Pane: 8, Rect: at(0, 0, 5, 5), Title: true}}, 2, 0, 8},
		{[]api.Spot{{Pane: -7, Rect: at(0, 0, 5, 5)}}, 0, 0, -7}, {[]api.Spot{{Pane: math.MaxInt, Rect: at(0, 0, 5, 5)}}, 0, 0, math.MaxInt},
		{wide, -5000, 0, 5}, {wide, -4801, 0, 5}, {wide, -4800, 0, -1}, {wide, -9999, 0, -1}, {wide, 9, 9, -1}, {wide, 0, 0, -1},
		{row, 0, 0, 100}, {row, 11, 0, 111}, {row, 12, 0, -1}, {row, 39, 0, -1},
		{cover, 4, 4, 1}, {cover, 8, 8, -1}, {cover[1:], 4, 4, 2}, {cover[1:], 8, 8, 2},
		{slices.Repeat(two, 1<<20), 3, 3, 7},
	} {
		if got := layout.At(x.spots, x.x, x.y); got != x.out {
			t.Errorf("At(%.200v, %d, %d) = %d, not %d", x.spots, x.x, x.y, got, x.out)
		}
	}
}

func TestP10_1_AtFindsWhatLiesThere(t *testing.T) {
	rnd := rand.New(rand.NewSource(10))
	for range 4000 {
		spots := make([]api.Spot, rnd.Intn(30))
		for i := range spots {
			spots[i] = api.Spot{Pane: rnd.Intn(99), Rect: at(rnd.Intn(9), rnd.Intn(9), rnd.Intn(8)-1, rnd.Intn(8)-1), Z: rnd.Intn(7) - 3, Title: rnd.Intn(2) == 0}
		}
		for x := -1; x < 16; x++ {
			y := rnd.Intn(17) - 1
			there := slices.Clone(spots[:min(len(spots), 24)])
			there = slices.DeleteFunc(there, func(s api.Spot) bool { return !rect.Has(s.Rect, x, y) })
			slices.SortStableFunc(there, func(a, b api.Spot) int { return a.Z - b.Z })
			want := -1
			if len(there) > 0 {
				want = there[len(there)-1].Pane
			}
			if got := layout.At(spots, x, y); got != want {
				t.Fatalf("At(%v, %d, %d) = %d, not %d", spots, x, y, got, want)
			}
		}
	}
}

func TestP10_2_EachCellIsSomeonesLeaf(t *testing.T) {
	p := readText(t, "layout { cols { pane size=4; rows { pane; stack { pane; pane } } }; float x=1 y=1 w=2 h=2 }")
	spots := layout.Place(p, at(0, 0, 10, 6))
	shown := ""
	for y := range 7 {
		for x := range 11 {
			shown += string("-01234"[layout.At(spots, x, y)+1])
		}
		shown += "\n"
	}
	const want = "0000111111-\n0440111111-\n0440111111-\n0000222222-\n0000333333-\n0000333333-\n-----------\n"
	if shown != want {
		t.Errorf("shown:\n%s", shown)
	}
}

func TestP10_3_PlaceAnswersNewMemoryAndLeavesItsPlan(t *testing.T) {
	p := floats(cols(sized(fixed(3), leaf("a")), rows(leaf("b"), stack(leaf("c"), leaf("d")))), at(1, 1, 2, 2), at(-9999, 0, 999, 1))
	before, r := copied(p), at(0, 0, 10, 6)
	want := modelPlace(p, r)
	first, second := layout.Place(p, r), layout.Place(p, r)
	spoil(first, api.Spot{Pane: 9, Z: 9})
	third := layout.Place(p, r)
	if !slices.Equal(second, want) || !slices.Equal(third, want) {
		t.Errorf("behind a Place whose answer was written over: %v, %v", second, third)
	}
	if !same(p, before) {
		t.Errorf("Place leaves %v, not %v", p, before)
	}
	spoilPlan(p)
	if !slices.Equal(third, want) {
		t.Errorf("behind a plan that was written over: %v", third)
	}
}

func TestP10_3_AtLeavesItsSpots(t *testing.T) {
	spots := []api.Spot{{Pane: 4, Rect: at(0, 0, 500, -5), Z: 7}, {Pane: 7, Rect: at(2, 2, 500, 5), Z: -1}, {Pane: 2, Rect: at(0, 0, 9, 9)}}
	before := slices.Clone(spots)
	if got := layout.At(spots[:2], 3, 3); got != 7 || !slices.Equal(spots, before) {
		t.Errorf("At = %d, leaves %v", got, spots)
	}
}
