package panes

import (
	"casement/api"
	"casement/layout"
	"casement/rect"
	"casement/swap"
)

// plans are how tiled panes lie, by how many of them there are. Of none it is no plan, so that none is laid.
type plans [api.MaxPanes + 1]api.Plan

// fitted are the plans that rules make. There are so few numbers of panes that no rule need be kept.
func fitted(rules []swap.Rule) plans {
	var list plans
	for n := 1; n < len(list); n++ {
		list[n] = fit(rules, n)
	}
	return list
}

// fit is the plan of n tiled panes.
func fit(rules []swap.Rule, n int) api.Plan {
	if i := swap.Choose(rules, n); i >= 0 {
		p := rules[i].Plan
		p.Float = nil
		if q, code := swap.Fit(p, n); code == api.OK {
			forget(&q)
			return q
		}
	}
	q, _ := swap.Fit(api.Plan{Kind: api.Leaf}, n)
	return q
}

// forget takes the names of a plan's leaves away: nothing here tells them, and they are the caller's texts.
func forget(p *api.Plan) {
	p.Name = ""
	for i := range p.Kids {
		forget(&p.Kids[i])
	}
}

// Place is where a pane lies.
type Place struct {
	Id           int
	Rect         api.Rect
	Z            int
	Title, Focus bool
}

// Places is where the panes lie.
func (s *Space) Places() []Place {
	if s.shown == 0 {
		return nil
	}
	t := s.tabs[s.shown-1]
	tiled := t.those(false)
	var list []Place
	for i, spot := range layout.Place(s.plans[len(tiled)], s.area) {
		list = append(list, Place{Id: tiled[i].id, Rect: spot.Rect, Title: spot.Title})
	}
	for i, p := range t.those(true) {
		r := rect.Into(rect.Shift(p.rect, s.area.X, s.area.Y), s.area)
		list = append(list, Place{Id: p.id, Rect: r, Z: i + 1})
	}
	for i := range list {
		list[i].Focus = list[i].Id == t.focus
	}
	return list
}

// At is the pane that has a cell.
func (s *Space) At(x, y int) int {
	var spots []api.Spot
	list := s.Places()
	for i, p := range list {
		spots = append(spots, api.Spot{Pane: i, Rect: p.Rect, Z: p.Z, Title: p.Title})
	}
	if i := layout.At(spots, x, y); i >= 0 {
		return list[i].Id
	}
	return 0
}
