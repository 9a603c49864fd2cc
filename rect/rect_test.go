package rect_test

import (
	"math"
	"math/big"
	"math/rand"
	"testing"

	"casement/api"
	"casement/rect"
)

// numbers lie at the ends of int, at the bounds of places and sides, and about 0.
var numbers = []int{math.MinInt, math.MinInt + 1, -5201, -5001, -5000, -4999, -201, -200, -3, -2, -1, 0, 1, 2, 3, 99, 100, 101, 199, 200, 201, 4799, 4800, 4801, 4999, 5000, 5001, math.MaxInt - 1, math.MaxInt}

var empty = api.Rect{}

func at(x, y, w, h int) api.Rect { return api.Rect{X: x, Y: y, W: w, H: h} }

// cleaned is what the document says of a rectangle that is handed in, word by word.
func cleaned(r api.Rect) api.Rect {
	for _, side := range []struct{ at, size *int }{{&r.X, &r.W}, {&r.Y, &r.H}} {
		if *side.at < -5000 {
			*side.at = -5000
		}
		if *side.at > 5000 {
			*side.at = 5000
		}
		if *side.size < 0 {
			*side.size = 0
		}
		if *side.size > 200 {
			*side.size = 200
		}
		if *side.size > 5000-*side.at {
			*side.size = 5000 - *side.at
		}
	}
	if r.W == 0 || r.H == 0 {
		return api.Rect{}
	}
	return r
}

// has tells by the numbers alone whether a clean rectangle has a cell.
func has(r api.Rect, x, y int) bool {
	return r.X <= x && x < r.X+r.W && r.Y <= y && y < r.Y+r.H
}

// small are rectangles that lie close to one another, some of them empty.
func small(rnd *rand.Rand) api.Rect {
	return at(rnd.Intn(9)-4, rnd.Intn(9)-4, rnd.Intn(7)-1, rnd.Intn(7)-1)
}

// strange are rectangles of the numbers at which something changes.
func strange(rnd *rand.Rand) api.Rect {
	one := func() int { return numbers[rnd.Intn(len(numbers))] }
	return at(one(), one(), one(), one())
}

// places goes through all cells that small rectangles may have, and one more on each side.
func places(yield func(x, y int)) {
	for x := -6; x <= 11; x++ {
		for y := -6; y <= 11; y++ {
			yield(x, y)
		}
	}
}

func TestP2_1_Sum(t *testing.T) {
	lo, hi := big.NewInt(math.MinInt), big.NewInt(math.MaxInt)
	for _, a := range numbers {
		for _, b := range numbers {
			want := new(big.Int).Add(big.NewInt(int64(a)), big.NewInt(int64(b)))
			if want.Cmp(lo) < 0 {
				want = lo
			}
			if want.Cmp(hi) > 0 {
				want = hi
			}
			if got := rect.Sum(a, b); int64(got) != want.Int64() {
				t.Errorf("Sum(%d, %d) = %d, not %v", a, b, got, want)
			}
		}
	}
}

func TestP2_1_Clamp(t *testing.T) {
	for _, n := range numbers {
		for _, lo := range numbers {
			for _, hi := range numbers {
				want := n
				if n > hi {
					want = hi
				}
				if n < lo || lo > hi {
					want = lo
				}
				if got := rect.Clamp(n, lo, hi); got != want {
					t.Fatalf("Clamp(%d, %d, %d) = %d, not %d", n, lo, hi, got, want)
				}
			}
		}
	}
}

func TestP2_1_CleanTable(t *testing.T) {
	for _, x := range []struct{ in, out api.Rect }{
		{at(1, 2, 3, 4), at(1, 2, 3, 4)},
		{at(-5000, -5000, 200, 200), at(-5000, -5000, 200, 200)},
		{at(-5001, math.MinInt, 201, math.MaxInt), at(-5000, -5000, 200, 200)},
		{at(4800, 4801, 200, 200), at(4800, 4801, 200, 199)},
		{at(4999, 4999, 2, 2), at(4999, 4999, 1, 1)},
		{at(5000, 0, 1, 1), empty},
		{at(0, math.MaxInt, 1, 1), empty},
		{at(7, 8, 0, 9), empty},
		{at(7, 8, 9, 0), empty},
		{at(7, 8, -1, 9), empty},
		{at(7, 8, 9, math.MinInt), empty},
	} {
		if got := rect.Clean(x.in); got != x.out {
			t.Errorf("Clean(%v) = %v, not %v", x.in, got, x.out)
		}
	}
}

func TestP2_1_CleanEmptyArea(t *testing.T) {
	rnd := rand.New(rand.NewSource(1))
	for range 50000 {
		r := strange(rnd)
		want := cleaned(r)
		if got := rect.Clean(r); got != want || rect.Clean(got) != got {
			t.Fatalf("Clean(%v) = %v, not %v", r, got, want)
		}
		if got := rect.Empty(r); got != (want == empty) {
			t.Fatalf("Empty(%v) = %v", r, got)
		}
		if got := rect.Area(r); got != want.W*want.H {
			t.Fatalf("Area(%v) = %d, not %d", r, got, want.W*want.H)
		}
	}
}

func TestP2_1_Has(t *testing.T) {
	rnd := rand.New(rand.NewSource(2))
	for range 20000 {
		r := strange(rnd)
		c := cleaned(r)
		for _, x := range []int{math.MinInt, c.X - 1, c.X, c.X + c.W - 1, c.X + c.W, math.MaxInt} {
			for _, y := range []int{math.MinInt, c.Y - 1, c.Y, c.Y + c.H - 1, c.Y + c.H, math.MaxInt} {
				if got := rect.Has(r, x, y); got != has(c, x, y) {
					t.Fatalf("Has(%v, %d, %d) = %v", r, x, y, got)
				}
			}
		}
	}
	if rect.Has(empty, 0, 0) || rect.Has(at(0, 0, 0, 5), 0, 0) {
		t.Error("an empty rectangle has a cell")
	}
}

func TestP2_1_WithinMeetHullTable(t *testing.T) {
	for _, x := range []struct {
		a, b, meet, hull api.Rect
		within           bool
	}{
		{at(0, 0, 5, 5), at(3, 3, 5, 5), at(3, 3, 2, 2), at(0, 0, 8, 8), false},
		{at(1, 1, 2, 2), at(0, 0, 5, 5), at(1, 1, 2, 2), at(0, 0, 5, 5), true},
		{at(0, 0, 5, 5), at(0, 0, 5, 5), at(0, 0, 5, 5), at(0, 0, 5, 5), true},
		{at(0, 0, 5, 5), at(1, 1, 2, 2), at(1, 1, 2, 2), at(0, 0, 5, 5), false},
		{at(0, 0, 2, 2), at(2, 0, 2, 2), empty, at(0, 0, 4, 2), false},
		{at(0, 0, 2, 2), at(0, 2, 2, 2), empty, at(0, 0, 2, 4), false},
		{at(-3, -3, 2, 2), at(4, 5, 1, 1), empty, at(-3, -3, 8, 9), false},
		{empty, at(4, 5, 1, 1), empty, at(4, 5, 1, 1), true},
		{at(4, 5, 1, 1), empty, empty, at(4, 5, 1, 1), false},
		{at(9, 9, 0, 4), at(4, 5, 1, 1), empty, at(4, 5, 1, 1), true},
		{empty, empty, empty, empty, true},
		{at(3, 3, -1, 1), at(-3, 3, 1, 0), empty, empty, true},
		{at(0, 0, 200, 1), at(1, 0, 200, 1), at(1, 0, 199, 1), at(0, 0, 200, 1), false},
		{at(1, 0, 1, 200), at(0, 9, 1, 200), empty, at(0, 0, 2, 200), false},
		{at(4999, 4999, 9, 9), at(-9999, -9999, 1, 1), empty, at(-5000, -5000, 200, 200), false},
		{at(300, 7, 1, 1), at(100, 9, 1, 1), empty, at(100, 7, 200, 3), false},
		{at(299, 7, 1, 1), at(100, 9, 1, 1), empty, at(100, 7, 200, 3), false},
		{at(0, 0, 999, 999), at(0, 0, 200, 200), at(0, 0, 200, 200), at(0, 0, 200, 200), true},
	} {
		if got := rect.Meet(x.a, x.b); got != x.meet {
			t.Errorf("Meet(%v, %v) = %v, not %v", x.a, x.b, got, x.meet)
		}
		if got := rect.Hull(x.a, x.b); got != x.hull {
			t.Errorf("Hull(%v, %v) = %v, not %v", x.a, x.b, got, x.hull)
		}
		if got := rect.Within(x.a, x.b); got != x.within {
			t.Errorf("Within(%v, %v) = %v", x.a, x.b, got)
		}
	}
}

func TestP2_1_Shift(t *testing.T) {
	for _, x := range []struct {
		in     api.Rect
		dx, dy int
		out    api.Rect
	}{
		{at(0, 0, 5, 5), -2, 3, at(-2, 3, 5, 5)},
		{at(1, 2, 3, 4), 0, 0, at(1, 2, 3, 4)},
		{empty, 7, 8, empty},
		{at(3, 3, 0, 5), 7, 8, empty},
		{at(0, 0, 5, 5), 4998, 4996, at(4998, 4996, 2, 4)},
		{at(0, 0, 5, 5), 5000, 0, empty},
		{at(0, 0, 5, 5), 0, math.MaxInt, empty},
		{at(9, 9, 5, 5), math.MaxInt, 0, empty},
		{at(-9, 9, 5, 5), math.MinInt, -9, at(-5000, 0, 5, 5)},
		{at(9, -9, 5, 5), -9, math.MinInt, at(0, -5000, 5, 5)},
		{at(4998, 0, 9, 9), -4998, 0, at(0, 0, 2, 9)},
		{at(0, 0, 999, 999), 1, 1, at(1, 1, 200, 200)},
	} {
		if got := rect.Shift(x.in, x.dx, x.dy); got != x.out {
			t.Errorf("Shift(%v, %d, %d) = %v, not %v", x.in, x.dx, x.dy, got, x.out)
		}
	}
}

func TestP2_1_Inset(t *testing.T) {
	for _, x := range []struct {
		in  api.Rect
		n   int
		out api.Rect
	}{
		{at(0, 0, 5, 5), 2, at(2, 2, 1, 1)},
		{at(0, 0, 5, 5), 3, empty},
		{at(0, 0, 5, 4), 2, empty},
		{at(0, 0, 4, 5), 2, empty},
		{at(1, 2, 9, 7), 1, at(2, 3, 7, 5)},
		{at(1, 2, 9, 7), 0, at(1, 2, 9, 7)},
		{at(1, 2, 9, 7), -1, at(1, 2, 9, 7)},
		{at(1, 2, 9, 7), math.MinInt, at(1, 2, 9, 7)},
		{at(1, 2, 9, 7), math.MaxInt, empty},
		{at(1, 2, 9, 7), math.MaxInt/2 + 1, empty},
		{at(-5000, -5000, 200, 200), 99, at(-4901, -4901, 2, 2)},
		{at(-5000, -5000, 200, 200), 100, empty},
		{at(4996, 4996, 200, 200), 1, at(4997, 4997, 2, 2)},
		{at(0, 0, 999, 999), 1, at(1, 1, 198, 198)},
		{empty, 0, empty},
		{at(3, 3, 0, 9), -5, empty},
	} {
		if got := rect.Inset(x.in, x.n); got != x.out {
			t.Errorf("Inset(%v, %d) = %v, not %v", x.in, x.n, got, x.out)
		}
	}
}

func TestP2_1_Into(t *testing.T) {
	for _, x := range []struct{ in, box, out api.Rect }{
		{at(8, 8, 4, 4), at(0, 0, 10, 10), at(6, 6, 4, 4)},
		{at(-8, -8, 4, 4), at(0, 0, 10, 10), at(0, 0, 4, 4)},
		{at(3, 2, 4, 4), at(0, 0, 10, 10), at(3, 2, 4, 4)},
		{at(-3, 0, 50, 1), at(2, 2, 10, 10), at(2, 2, 10, 1)},
		{at(0, 0, 3, 50), at(2, -2, 10, 10), at(2, -2, 3, 10)},
		{at(4990, 4990, 99, 99), at(-5000, -5000, 20, 5), at(-4990, -5000, 10, 5)},
		{at(0, 0, 5, 5), empty, empty},
		{at(0, 0, 5, 5), at(3, 3, 5, 0), empty},
		{empty, at(3, 3, 5, 5), empty},
		{at(9, 9, 0, 5), at(3, 3, 5, 5), empty},
		{at(0, 0, 999, 999), at(-9999, 4900, 999, 999), at(-5000, 4900, 200, 100)},
	} {
		if got := rect.Into(x.in, x.box); got != x.out {
			t.Errorf("Into(%v, %v) = %v, not %v", x.in, x.box, got, x.out)
		}
	}
}

// far is how far one rectangle's corner lies from the other's.
func far(a, b api.Rect) int {
	return max(a.X-b.X, b.X-a.X) + max(a.Y-b.Y, b.Y-a.Y)
}

func TestP2_1_IntoMovesAsLittleAsMayBe(t *testing.T) {
	rnd := rand.New(rand.NewSource(3))
	for range 3000 {
		r, box := small(rnd), small(rnd)
		got := rect.Into(r, box)
		r, box = cleaned(r), cleaned(box)
		if r == empty || box == empty {
			if got != empty {
				t.Fatalf("Into(%v, %v) = %v", r, box, got)
			}
			continue
		}
		best := at(0, 0, min(r.W, box.W), min(r.H, box.H))
		least := math.MaxInt
		places(func(x, y int) {
			moved := at(x, y, best.W, best.H)
			inside := x >= box.X && y >= box.Y && x+best.W <= box.X+box.W && y+best.H <= box.Y+box.H
			if inside && far(moved, r) < least {
				best, least = moved, far(moved, r)
			}
		})
		if got != best {
			t.Fatalf("Into(%v, %v) = %v, not %v", r, box, got, best)
		}
	}
}

func TestP2_1_StrangeNumbers(t *testing.T) {
	rnd := rand.New(rand.NewSource(4))
	one := func() int { return numbers[rnd.Intn(len(numbers))] }
	for range 50000 {
		a, b := strange(rnd), strange(rnd)
		m, n := one(), one()
		for _, x := range []struct {
			name       string
			dirty, got api.Rect
		}{
			{"Meet", rect.Meet(a, b), rect.Meet(cleaned(a), cleaned(b))},
			{"Hull", rect.Hull(a, b), rect.Hull(cleaned(a), cleaned(b))},
			{"Shift", rect.Shift(a, m, n), rect.Shift(cleaned(a), m, n)},
			{"Inset", rect.Inset(a, m), rect.Inset(cleaned(a), m)},
			{"Into", rect.Into(a, b), rect.Into(cleaned(a), cleaned(b))},
		} {
			if x.dirty != x.got || cleaned(x.got) != x.got {
				t.Fatalf("%s of %v, %v, %d, %d: %v, of the cleaned ones %v", x.name, a, b, m, n, x.dirty, x.got)
			}
		}
		if rect.Within(a, b) != rect.Within(cleaned(a), cleaned(b)) {
			t.Fatalf("Within(%v, %v) = %v", a, b, rect.Within(a, b))
		}
	}
}

func TestP2_2_MeetHullWithinHasFit(t *testing.T) {
	rnd := rand.New(rand.NewSource(5))
	for range 5000 {
		a, b := small(rnd), small(rnd)
		meet, hull, within := rect.Meet(a, b), rect.Hull(a, b), true
		first := at(math.MaxInt, math.MaxInt, 0, 0) // of the cells of either, by looking at each
		right, bottom := math.MinInt, math.MinInt
		places(func(x, y int) {
			inA, inB := has(cleaned(a), x, y), has(cleaned(b), x, y)
			within = within && (!inA || inB)
			if rect.Has(a, x, y) != inA || rect.Has(meet, x, y) != (inA && inB) {
				t.Fatalf("Meet(%v, %v) = %v, at %d, %d", a, b, meet, x, y)
			}
			if inA || inB {
				first.X, first.Y = min(first.X, x), min(first.Y, y)
				right, bottom = max(right, x+1), max(bottom, y+1)
			}
		})
		want := empty
		if right > first.X {
			want = at(first.X, first.Y, right-first.X, bottom-first.Y)
		}
		if hull != want {
			t.Fatalf("Hull(%v, %v) = %v, not %v", a, b, hull, want)
		}
		if rect.Within(a, b) != within {
			t.Fatalf("Within(%v, %v) = %v", a, b, !within)
		}
		if !rect.Within(meet, a) || !rect.Within(meet, b) || !rect.Within(a, hull) || !rect.Within(b, hull) || rect.Meet(b, a) != meet || rect.Hull(b, a) != hull {
			t.Fatalf("%v and %v: Meet %v and Hull %v don't fit", a, b, meet, hull)
		}
	}
}
