package panes

import (
	"slices"

	"casement/api"
	"casement/rect"
)

// pane is a part of a tab.
type pane struct {
	id     int
	floats bool
	rect   api.Rect // of one that floats, told from the area's corner
}

// number is a pane's.
type number int

func (n number) of(p pane) bool { return p.id == int(n) }

// tab is panes in an order, at least one but while it comes or goes.
type tab struct {
	panes []pane
	focus int // the number of the pane that has it
}

// find is the place of a pane, from 0 on; -1: it isn't in this tab.
func (t *tab) find(id int) int { return slices.IndexFunc(t.panes, number(id).of) }

// add makes a new pane, which has the focus.
func (t *tab) add(id int) {
	t.panes = append(t.panes, pane{id: id})
	t.focus = id
}

// drop lets the pane at a place go.
func (t *tab) drop(at int) {
	id := t.panes[at].id
	t.panes = slices.Delete(t.panes, at, at+1)
	if t.focus == id && len(t.panes) > 0 {
		t.focus = t.panes[max(at-1, 0)].id
	}
}

// turn lets the focus go on, round and round.
func (t *tab) turn(d int) {
	n := len(t.panes)
	// d is brought below n ahead of the sum, which might overflow.
	at := (t.find(t.focus) + d%n + n) % n
	t.focus = t.panes[at].id
}

// shift moves the pane at a place on in the order.
func (t *tab) shift(at, d int) {
	p := t.panes[at]
	to := rect.Clamp(rect.Sum(at, d), 0, len(t.panes)-1)
	t.panes = slices.Insert(slices.Delete(t.panes, at, at+1), to, p)
}

// those are the tab's panes that float, or that don't.
func (t *tab) those(float bool) []pane {
	var list []pane
	for _, p := range t.panes {
		if p.floats == float {
			list = append(list, p)
		}
	}
	return list
}
