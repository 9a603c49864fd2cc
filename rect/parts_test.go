package rect_test

import (
	"math"
	"math/rand"
	"slices"
	"testing"

	"casement/api"
	"casement/rect"
)

func TestP2_1_CutTable(t *testing.T) {
	for _, x := range []struct {
		in     api.Rect
		sizes  []int
		across bool
		out    []api.Rect
	}{
		{at(0, 0, 10, 3), []int{4, 9, 2}, false, []api.Rect{at(0, 0, 4, 3), at(4, 0, 6, 3), empty}},
		{at(0, 0, 10, 3), []int{4, -1, 9, 2}, false, []api.Rect{at(0, 0, 4, 3), empty, at(4, 0, 6, 3), empty}},
		{at(1, 1, 2, 9), []int{3, 3}, true, []api.Rect{at(1, 1, 2, 3), at(1, 4, 2, 3)}},
		{at(1, 1, 2, 9), []int{0, 5, 5, 5}, true, []api.Rect{empty, at(1, 1, 2, 5), at(1, 6, 2, 4), empty}},
		{at(-2, -3, 4, 4), []int{1, 1, 1, 1}, false, []api.Rect{at(-2, -3, 1, 4), at(-1, -3, 1, 4), at(0, -3, 1, 4), at(1, -3, 1, 4)}},
		{at(5, 6, 7, 8), []int{math.MinInt, math.MaxInt, math.MaxInt}, false, []api.Rect{empty, at(5, 6, 7, 8), empty}},
		{at(5, 6, 7, 8), []int{1, math.MaxInt}, true, []api.Rect{at(5, 6, 7, 1), at(5, 7, 7, 7)}},
		{at(4990, 4990, 99, 99), []int{9, 9}, false, []api.Rect{at(4990, 4990, 9, 10), at(4999, 4990, 1, 10)}},
		{at(0, 0, 999, 999), []int{150, 150, 150}, true, []api.Rect{at(0, 0, 200, 150), at(0, 150, 200, 50), empty}},
		{empty, []int{1, 2}, false, []api.Rect{empty, empty}},
		{at(3, 4, 5, 0), []int{1, 2}, false, []api.Rect{empty, empty}},
		{at(3, 4, 5, 6), nil, false, nil},
		{at(3, 4, 5, 6), []int{}, true, nil},
	} {
		if got := rect.Cut(x.in, x.sizes, x.across); !slices.Equal(got, x.out) {
			t.Errorf("Cut(%v, %v, %v) = %v, not %v", x.in, x.sizes, x.across, got, x.out)
		}
	}
}

func TestP2_1_CutCountsMaxPartsSizes(t *testing.T) {
	ones := slices.Repeat([]int{1}, 40)
	for _, n := range []int{15, 16, 17, 40} {
		for _, across := range []bool{false, true} {
			got := rect.Cut(at(2, 3, 100, 100), ones[:n], across)
			if len(got) != min(n, api.MaxParts) {
				t.Fatalf("Cut of %d sizes: %d parts", n, len(got))
			}
			for i, p := range got {
				want := at(2+i, 3, 1, 100)
				if across {
					want = at(2, 3+i, 100, 1)
				}
				if p != want {
					t.Errorf("Cut of %d sizes: part %d is %v, not %v", n, i, p, want)
				}
			}
		}
	}
}

func TestP2_2_CutsPartsShareNoCell(t *testing.T) {
	rnd := rand.New(rand.NewSource(6))
	for range 5000 {
		r, across := small(rnd), rnd.Intn(2) == 1
		sizes := make([]int, rnd.Intn(6))
		left := cleaned(r).W
		if across {
			left = cleaned(r).H
		}
		for i := range sizes {
			sizes[i] = rnd.Intn(6) - 2
		}
		parts := rect.Cut(r, sizes, across)
		if len(parts) != len(sizes) {
			t.Fatalf("Cut(%v, %v, %v) = %v", r, sizes, across, parts)
		}
		for i, p := range parts {
			want := min(max(0, sizes[i]), left)
			left -= want
			if got := p.W; !across && got != want || across && p.H != want || cleaned(p) != p || !rect.Within(p, r) {
				t.Fatalf("Cut(%v, %v, %v) = %v", r, sizes, across, parts)
			}
			for _, q := range parts[:i] {
				if rect.Meet(p, q) != empty {
					t.Fatalf("Cut(%v, %v, %v): %v and %v share cells", r, sizes, across, p, q)
				}
			}
		}
	}
}

func TestP2_1_CoverTable(t *testing.T) {
	apart := make([]api.Rect, 0, 40)
	for i := range 40 {
		apart = append(apart, at(3*i, 2*i, 2, 3))
	}
	same := slices.Repeat([]api.Rect{at(-7, -7, 5, 5)}, 30)
	for _, x := range []struct {
		name string
		in   []api.Rect
		out  int
	}{
		{"none", nil, 0},
		{"an empty list", []api.Rect{}, 0},
		{"empty ones", []api.Rect{empty, at(3, 3, 0, 5), at(1, 1, 5, -1)}, 0},
		{"one", []api.Rect{at(3, 3, 4, 5)}, 20},
		{"three", []api.Rect{at(0, 0, 2, 2), at(1, 1, 2, 2), at(0, 0, 1, 1)}, 7},
		{"a cross", []api.Rect{at(0, 2, 5, 1), at(2, 0, 1, 5)}, 9},
		{"a ring", []api.Rect{at(0, 0, 5, 1), at(0, 4, 5, 1), at(0, 0, 1, 5), at(4, 0, 1, 5)}, 16},
		{"an empty one about 0", []api.Rect{at(-2, -2, 4, 4), empty}, 16},
		{"the corners", []api.Rect{at(-9999, -9999, 999, 999), at(4999, 4999, 5, 5), at(5000, 0, 5, 5)}, 40001},
		{"the ends of int", []api.Rect{at(math.MinInt, math.MinInt, math.MaxInt, math.MaxInt), at(math.MaxInt, 0, 1, 1)}, 40000},
		{"24 apart", apart[:24], 24 * 6},
		{"25 apart", apart[:25], 24 * 6},
		{"40 apart", apart, 24 * 6},
		{"30 alike", same, 25},
		{"24 alike and another", append(same[:24:24], at(50, 50, 1, 1)), 25},
		{"23 alike and another", append(same[:23:23], at(50, 50, 1, 1)), 26},
	} {
		if got := rect.Cover(x.in); got != x.out {
			t.Errorf("Cover of %s = %d, not %d", x.name, got, x.out)
		}
	}
}

func TestP2_1_CoverCountsEachCellOnce(t *testing.T) {
	rnd := rand.New(rand.NewSource(7))
	for range 3000 {
		rs := make([]api.Rect, rnd.Intn(30))
		for i := range rs {
			rs[i] = small(rnd)
		}
		want := 0
		places(func(x, y int) {
			if slices.ContainsFunc(rs[:min(len(rs), 24)], func(r api.Rect) bool { return has(cleaned(r), x, y) }) {
				want++
			}
		})
		if got := rect.Cover(rs); got != want {
			t.Fatalf("Cover(%v) = %d, not %d", rs, got, want)
		}
	}
}

func TestP2_1_MinusTable(t *testing.T) {
	a := at(0, 0, 5, 5)
	for _, x := range []struct {
		a, b api.Rect
		out  []api.Rect
	}{
		{at(0, 0, 3, 3), at(1, 1, 1, 1), []api.Rect{at(0, 0, 3, 1), at(0, 1, 1, 1), at(2, 1, 1, 1), at(0, 2, 3, 1)}},
		{a, a, nil},
		{a, at(-1, -1, 9, 9), nil},
		{a, at(9, 9, 1, 1), []api.Rect{a}},
		{a, empty, []api.Rect{a}},
		{a, at(3, 3, 0, 9), []api.Rect{a}},
		{empty, a, nil},
		{empty, empty, nil},
		{at(2, 2, -3, 4), a, nil},
		{a, at(0, 0, 2, 2), []api.Rect{at(2, 0, 3, 2), at(0, 2, 5, 3)}},
		{a, at(3, 3, 9, 9), []api.Rect{at(0, 0, 5, 3), at(0, 3, 3, 2)}},
		{a, at(-1, 2, 9, 1), []api.Rect{at(0, 0, 5, 2), at(0, 3, 5, 2)}},
		{a, at(2, -1, 1, 9), []api.Rect{at(0, 0, 2, 5), at(3, 0, 2, 5)}},
		{a, at(-1, -1, 3, 9), []api.Rect{at(2, 0, 3, 5)}},
		{a, at(-1, 3, 9, 9), []api.Rect{at(0, 0, 5, 3)}},
		{at(-9999, 4999, 999, 999), at(-4999, 4999, 1, 1), []api.Rect{at(-5000, 4999, 1, 1), at(-4998, 4999, 198, 1)}},
		{at(0, 0, 999, 999), at(1, 1, 999, math.MaxInt), []api.Rect{at(0, 0, 200, 1), at(0, 1, 1, 199)}},
	} {
		if got := rect.Minus(x.a, x.b); !slices.Equal(got, x.out) {
			t.Errorf("Minus(%v, %v) = %v, not %v", x.a, x.b, got, x.out)
		}
	}
}

// around are the parts of a that lie above b, on its left, on its right and below, found cell by cell, where they share a cell.
func around(a, b api.Rect) []api.Rect {
	var parts [4]api.Rect
	places(func(x, y int) {
		if !has(a, x, y) || has(b, x, y) {
			return
		}
		side := 0
		switch {
		case y < b.Y:
		case y >= b.Y+b.H:
			side = 3
		case x < b.X:
			side = 1
		default:
			side = 2
		}
		if p := &parts[side]; *p == empty {
			*p = at(x, y, 1, 1)
		} else {
			p.W, p.H = x-p.X+1, y-p.Y+1
		}
	})
	return slices.DeleteFunc(parts[:], func(r api.Rect) bool { return r == empty })
}

func TestP2_1_MinusGoesAround(t *testing.T) {
	rnd := rand.New(rand.NewSource(8))
	for range 5000 {
		a, b := small(rnd), small(rnd)
		if rect.Empty(rect.Meet(a, b)) {
			continue
		}
		if got, want := rect.Minus(a, b), around(cleaned(a), cleaned(b)); !slices.Equal(got, want) {
			t.Fatalf("Minus(%v, %v) = %v, not %v", a, b, got, want)
		}
	}
}

func TestP2_3_MinusAndMeetHaveEachCellOnce(t *testing.T) {
	rnd := rand.New(rand.NewSource(9))
	for range 5000 {
		a, b := small(rnd), small(rnd)
		parts := rect.Minus(a, b)
		if len(parts) > 4 || slices.Contains(parts, empty) {
			t.Fatalf("Minus(%v, %v) = %v", a, b, parts)
		}
		all := append(slices.Clone(parts), rect.Meet(a, b))
		places(func(x, y int) {
			n := 0
			for _, p := range all {
				if has(p, x, y) {
					n++
				}
			}
			if has(cleaned(a), x, y) != (n == 1) || n > 1 {
				t.Fatalf("Minus(%v, %v) = %v: the cell %d, %d is told %d times", a, b, parts, x, y, n)
			}
		})
	}
}

func TestP2_3_MinusAtStrangeNumbers(t *testing.T) {
	rnd := rand.New(rand.NewSource(10))
	for range 50000 {
		a, b := strange(rnd), strange(rnd)
		parts := rect.Minus(a, b)
		all := append(slices.Clone(parts), rect.Meet(a, b))
		area := 0
		for i, p := range all {
			area += p.W * p.H
			if cleaned(p) != p || !rect.Within(p, a) || i < len(parts) && p == empty {
				t.Fatalf("Minus(%v, %v) = %v", a, b, parts)
			}
			for _, q := range all[:i] {
				if rect.Meet(p, q) != empty {
					t.Fatalf("Minus(%v, %v) = %v: %v and %v share cells", a, b, parts, p, q)
				}
			}
		}
		if area != rect.Area(a) || len(parts) > 4 {
			t.Fatalf("Minus(%v, %v) = %v: %d cells of %d", a, b, parts, area, rect.Area(a))
		}
	}
}

// spoil writes over a list and its spare room.
func spoil[T any](list []T, v T) {
	list = list[:cap(list)]
	for i := range list {
		list[i] = v
	}
}

func TestP2_4_CutIsNewMemory(t *testing.T) {
	backing := []int{4, -1, 9, 2, 7, 7}
	sizes := backing[:4]
	want := []api.Rect{at(0, 0, 4, 3), empty, at(4, 0, 6, 3), empty}
	first, second := rect.Cut(at(0, 0, 10, 3), sizes, false), rect.Cut(at(0, 0, 10, 3), sizes, false)
	spoil(first, at(9, 9, 9, 9))
	if !slices.Equal(second, want) || !slices.Equal(backing, []int{4, -1, 9, 2, 7, 7}) {
		t.Errorf("behind a Cut whose answer was written over: %v, %v", second, backing)
	}
	if third := rect.Cut(at(0, 0, 10, 3), sizes, false); !slices.Equal(third, want) {
		t.Errorf("Cut again = %v", third)
	}
}

func TestP2_4_MinusIsNewMemory(t *testing.T) {
	for _, b := range []api.Rect{at(1, 1, 1, 1), at(9, 9, 1, 1), at(0, 0, 1, 1)} {
		first, second := rect.Minus(at(0, 0, 3, 3), b), rect.Minus(at(0, 0, 3, 3), b)
		want := slices.Clone(first)
		spoil(first, at(9, 9, 9, 9))
		if third := rect.Minus(at(0, 0, 3, 3), b); !slices.Equal(second, want) || !slices.Equal(third, want) {
			t.Errorf("behind a Minus whose answer was written over: %v, %v", second, third)
		}
	}
}

func TestP2_4_CoverLeavesItsListAlone(t *testing.T) {
	backing := []api.Rect{at(5, 5, 2, 2), at(-9999, 0, 999, 1), at(3, 3, 0, 3), at(0, 0, 1, 1), at(1, 0, -1, 1), at(-1, 0, 1, 1)}
	before := slices.Clone(backing)
	if got := rect.Cover(backing[:4]); got != 205 || !slices.Equal(backing, before) {
		t.Errorf("Cover = %d, leaves %v", got, backing)
	}
}
