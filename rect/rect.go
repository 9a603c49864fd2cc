// Package rect is layer 2: rectangles of cells, whole numbers that don't overflow.
package rect

import (
	"math"

	"casement/api"
)

// Sum adds, and stays within what there is.
func Sum(a, b int) int {
	sum := a + b
	switch {
	case b > 0 && sum < a:
		return math.MaxInt
	case b < 0 && sum > a:
		return math.MinInt
	}
	return sum
}

// Clamp is n, but at least lo and at most hi; lo, where lo is above hi.
func Clamp(n, lo, hi int) int { return max(lo, min(n, hi)) }

// Clean is a rectangle as it counts.
func Clean(r api.Rect) api.Rect {
	x, w := cleanSide(r.X, r.W)
	y, h := cleanSide(r.Y, r.H)
	if w == 0 || h == 0 {
		return api.Rect{}
	}
	return api.Rect{X: x, Y: y, W: w, H: h}
}

// cleanSide is where a side begins, and how long it is.
func cleanSide(at, size int) (int, int) {
	at = Clamp(at, -api.MaxPos, api.MaxPos)
	return at, Clamp(size, 0, min(api.MaxSide, api.MaxPos-at))
}

// Empty tells whether a rectangle has no cells.
func Empty(r api.Rect) bool { return Clean(r) == api.Rect{} }

// Area is how many cells a rectangle has.
func Area(r api.Rect) int {
	r = Clean(r)
	return r.W * r.H
}

// Has tells whether a rectangle has a cell.
func Has(r api.Rect, x, y int) bool {
	r = Clean(r)
	return r.X <= x && x < r.X+r.W && r.Y <= y && y < r.Y+r.H
}

// Within tells whether all of a's cells are b's, too.
func Within(a, b api.Rect) bool { return Meet(a, b) == Clean(a) }

// Meet is the cells of both.
func Meet(a, b api.Rect) api.Rect {
	a, b = Clean(a), Clean(b)
	return spanning(max(a.X, b.X), max(a.Y, b.Y), min(a.X+a.W, b.X+b.W), min(a.Y+a.H, b.Y+b.H))
}

// Hull is the least rectangle that has the cells of both, as far as one may reach.
func Hull(a, b api.Rect) api.Rect {
	a, b = Clean(a), Clean(b)
	if a == (api.Rect{}) {
		return b
	}
	if b == (api.Rect{}) {
		return a
	}
	return spanning(min(a.X, b.X), min(a.Y, b.Y), max(a.X+a.W, b.X+b.W), max(a.Y+a.H, b.Y+b.H))
}

// spanning is the rectangle from a first cell up to where its columns and rows end.
func spanning(x, y, right, bottom int) api.Rect {
	return Clean(api.Rect{X: x, Y: y, W: right - x, H: bottom - y})
}

// Shift moves a rectangle.
func Shift(r api.Rect, dx, dy int) api.Rect {
	r = Clean(r)
	r.X, r.Y = Sum(r.X, dx), Sum(r.Y, dy)
	return Clean(r)
}

// Inset takes n cells away on each side.
func Inset(r api.Rect, n int) api.Rect {
	r = Clean(r)
	n = Clamp(n, 0, api.MaxSide) // no rectangle has more to lose, and twice n is a number then
	return Clean(api.Rect{X: r.X + n, Y: r.Y + n, W: r.W - 2*n, H: r.H - 2*n})
}

// Into moves a rectangle into a box.
func Into(r, box api.Rect) api.Rect {
	r, box = Clean(r), Clean(box)
	w, h := min(r.W, box.W), min(r.H, box.H)
	return Clean(api.Rect{
		X: Clamp(r.X, box.X, box.X+box.W-w),
		Y: Clamp(r.Y, box.Y, box.Y+box.H-h),
		W: w,
		H: h,
	})
}
