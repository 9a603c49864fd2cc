package rect

import (
	"cmp"
	"slices"

	"casement/api"
)

// Cut parts a rectangle: from the left, or across, from the top.
func Cut(r api.Rect, sizes []int, across bool) []api.Rect {
	rest := Clean(r)
	var parts []api.Rect
	for _, size := range sizes[:min(len(sizes), api.MaxParts)] {
		var part api.Rect
		part, rest = split(rest, size, across)
		parts = append(parts, part)
	}
	return parts
}

// split is a rectangle's first columns (across: rows), as many as size, and those that are left.
func split(r api.Rect, size int, across bool) (api.Rect, api.Rect) {
	part, rest := r, r
	if across {
		part.H = Clamp(size, 0, r.H)
		rest.Y, rest.H = r.Y+part.H, r.H-part.H
	} else {
		part.W = Clamp(size, 0, r.W)
		rest.X, rest.W = r.X+part.W, r.W-part.W
	}
	return Clean(part), Clean(rest)
}

// Minus is the cells of a that aren't b's: above b, on its left, on its right, below.
func Minus(a, b api.Rect) []api.Rect {
	a = Clean(a)
	both := Meet(a, b)
	if both == (api.Rect{}) {
		return filled(a) // there is nothing to go around
	}
	above, rest := split(a, both.Y-a.Y, true)
	middle, below := split(rest, both.H, true)
	left, rest := split(middle, both.X-a.X, false)
	_, right := split(rest, both.W, false)
	return filled(above, left, right, below)
}

// filled are those rectangles that aren't empty.
func filled(rs ...api.Rect) []api.Rect {
	return slices.DeleteFunc(rs, Empty)
}

// Cover is how many cells lie in some rectangle of the first MaxPanes.
func Cover(rs []api.Rect) int {
	var clean []api.Rect
	var edges []int
	for _, r := range rs[:min(len(rs), api.MaxPanes)] {
		r = Clean(r)
		clean = append(clean, r)
		edges = append(edges, r.Y, r.Y+r.H)
	}
	slices.SortFunc(clean, func(a, b api.Rect) int { return cmp.Compare(a.X, b.X) })
	slices.Sort(edges)
	// Between two edges all rows are alike: one is counted for all.
	total := 0
	for i := 1; i < len(edges); i++ {
		total += (edges[i] - edges[i-1]) * covered(clean, edges[i-1])
	}
	return total
}

// covered is how many cells of a row lie in some rectangle, of those that are sorted by X.
func covered(rs []api.Rect, y int) int {
	n, end := 0, -api.MaxPos
	for _, r := range rs {
		if !Has(r, r.X, y) {
			continue
		}
		right := r.X + r.W
		n += max(0, right-max(r.X, end))
		end = max(end, right)
	}
	return n
}
