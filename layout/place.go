package layout

import (
	"slices"

	"casement/api"
	"casement/rect"
	"casement/solve"
)

// laying lays panes, one behind the other.
type laying struct {
	spots []api.Spot
}

// add lays a pane, that has the next number.
func (l *laying) add(r api.Rect, z int, title bool) {
	l.spots = append(l.spots, api.Spot{Pane: len(l.spots), Rect: r, Z: z, Title: title})
}

// plan lays a right plan's leaves into a box.
func (l *laying) plan(p api.Plan, box api.Rect) {
	switch p.Kind {
	case api.Leaf:
		l.add(box, 0, false)
	case api.Stack:
		l.stack(len(p.Kids), box)
	default:
		for i, part := range rect.Cut(box, lengths(p, box), p.Kind == api.Rows) {
			l.plan(p.Kids[i], part)
		}
	}
}

// lengths are those of a split's kids in a box. Where there is no room for all, each wants a cell, and Cut gives them out as long as there are any.
func lengths(p api.Plan, box api.Rect) []int {
	total := box.W
	if p.Kind == api.Rows {
		total = box.H
	}
	var sizes []api.Size
	for _, kid := range p.Kids {
		sizes = append(sizes, kid.Size)
	}
	list, code := solve.Share(total, sizes)
	if code != api.OK {
		return slices.Repeat([]int{1}, len(sizes))
	}
	return list
}

// stack lays a stack of n panes into a box. The open one wants all rows, and has those that the titles leave.
func (l *laying) stack(n int, box api.Rect) {
	open := n - 1
	rows := make([]int, n)
	for i := range min(open, box.H-1) {
		rows[i] = 1
	}
	rows[open] = box.H
	for i, part := range rect.Cut(box, rows, true) {
		l.add(part, 0, i < open)
	}
}

// floats lays floating panes, whose rectangles are told from the corner of a box, into it.
func (l *laying) floats(rs []api.Rect, box api.Rect) {
	for i, r := range rs {
		l.add(rect.Into(rect.Shift(r, box.X, box.Y), box), i+1, false)
	}
}
