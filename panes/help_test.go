package panes_test

import (
	"fmt"
	"math"
	"math/rand"
	"slices"
	"strings"
	"testing"

	"casement/api"
	"casement/layout"
	"casement/panes"
	"casement/rect"
	"casement/swap"
)

// MaxTabs and MaxPanes as the document has them.
const (
	mostTabs  = 4
	mostPanes = 24
)

var empty = api.Rect{}

func at(x, y, w, h int) api.Rect { return api.Rect{X: x, Y: y, W: w, H: h} }

func leaf(name string) api.Plan { return api.Plan{Kind: 1, Name: name} }

func cols(kids ...api.Plan) api.Plan { return api.Plan{Kind: 2, Kids: kids} }

func rows(kids ...api.Plan) api.Plan { return api.Plan{Kind: 3, Kids: kids} }

func stack(kids ...api.Plan) api.Plan { return api.Plan{Kind: 4, Kids: kids} }

// sized is a plan of so many cells.
func sized(n int, p api.Plan) api.Plan {
	p.Size = api.Size{Kind: 1, N: n}
	return p
}

// floats is a plan with n floating panes.
func floats(p api.Plan, n int) api.Plan {
	p.Float = slices.Repeat([]api.Rect{at(1, 1, 2, 2)}, n)
	return p
}

// many are leaves.
func many(n int) []api.Plan { return slices.Repeat([]api.Plan{leaf("")}, n) }

// nest puts a plan into so many others.
func nest(p api.Plan, n int) api.Plan {
	for range n {
		p = rows(p)
	}
	return p
}

func rule(least, most int, p api.Plan) swap.Rule { return swap.Rule{Min: least, Max: most, Plan: p} }

// some are rules for many numbers of panes, anew with each call.
func some() []swap.Rule {
	return []swap.Rule{
		rule(2, 2, floats(cols(sized(3, leaf("a")), leaf("b")), 2)),
		rule(3, 3, api.Plan{Kind: 7}),
		rule(3, 4, stack(leaf("a"), leaf("b"), leaf("c"))),
		rule(5, 9, cols(leaf("a"), rows(leaf("b"), leaf("c")))),
		rule(6, 6, leaf("a")),
		rule(12, 12, nest(leaf("a"), 11)),
	}
}

func pick[T any](rnd *rand.Rand, of ...T) T { return of[rnd.Intn(len(of))] }

// copied shares nothing with the plan.
func copied(p api.Plan) api.Plan {
	p.Name = strings.Clone(p.Name)
	p.Float = slices.Clone(p.Float)
	var kids []api.Plan
	for _, kid := range p.Kids {
		kids = append(kids, copied(kid))
	}
	p.Kids = kids
	return p
}

func copiedRules(rules []swap.Rule) (list []swap.Rule) {
	for _, r := range rules {
		list = append(list, rule(r.Min, r.Max, copied(r.Plan)))
	}
	return list
}

// spoil writes over a list and its spare room.
func spoil[T any](list []T, v T) {
	list = list[:cap(list)]
	for i := range list {
		list[i] = v
	}
}

// spoilPlan writes over all lists of a plan.
func spoilPlan(p api.Plan) {
	for _, kid := range p.Kids {
		spoilPlan(kid)
	}
	spoil(p.Kids, api.Plan{Kind: 9, Name: "spoilt"})
	spoil(p.Float, at(9, 9, 9, 9))
}

// wrongs are numbers that no tab and no pane has.
func wrongs() []int {
	return []int{0, -1, -2, 999, 1 << 32, 1<<32 + 1, math.MinInt, math.MinInt + 1, math.MaxInt}
}

// model has a list of panes' numbers for each tab, and what else there is to be known by their numbers.
type model struct {
	area  api.Rect
	rules []swap.Rule
	tabs  [][]int
	focus []int
	shown int
	last  int
	where map[int]api.Rect // of floating panes
}

func (m *model) Resize(area api.Rect) { m.area = rect.Clean(area) }

func (m *model) come() int {
	m.last++
	i := m.shown - 1
	m.tabs[i] = append(slices.Clip(m.tabs[i]), m.last)
	m.focus[i] = m.last
	return m.last
}

func (m *model) OpenTab() (int, api.Errno) {
	if len(m.tabs) >= mostTabs || len(slices.Concat(m.tabs...)) >= mostPanes {
		return 0, 3
	}
	m.tabs, m.focus = append(m.tabs, nil), append(m.focus, 0)
	m.shown = len(m.tabs)
	return m.come(), 0
}

func (m *model) Open() (int, api.Errno) {
	if len(m.tabs) == 0 {
		return 0, 190
	}
	if len(slices.Concat(m.tabs...)) >= mostPanes {
		return 0, 3
	}
	return m.come(), 0
}

func (m *model) Close(id int) api.Errno {
	tab := m.Tab(id)
	if tab == 0 {
		return 5
	}
	delete(m.where, id)
	i := tab - 1
	list := m.tabs[i]
	at := slices.Index(list, id)
	if m.focus[i] == id && len(list) > 1 {
		m.focus[i] = list[1]
		if at > 0 {
			m.focus[i] = list[at-1]
		}
	}
	m.tabs[i] = slices.Concat(list[:at], list[at+1:])
	if len(list) == 1 {
		m.tabs, m.focus = slices.Concat(m.tabs[:i], m.tabs[tab:]), slices.Concat(m.focus[:i], m.focus[tab:])
		switch {
		case len(m.tabs) == 0:
			m.shown = 0
		case m.shown > tab, m.shown == tab && tab > 1:
			m.shown--
		}
	}
	return 0
}

func (m *model) Focus(id int) api.Errno {
	tab := m.Tab(id)
	if tab == 0 {
		return 5
	}
	m.focus[tab-1], m.shown = id, tab
	return 0
}

func (m *model) Go(tab int) api.Errno {
	for i := range m.tabs {
		if tab == i+1 {
			m.shown = tab
			return 0
		}
	}
	return 190
}

func (m *model) Turn(d int) api.Errno {
	if len(m.tabs) == 0 {
		return 190
	}
	i := m.shown - 1
	list := m.tabs[i]
	steps := d % len(list)
	for range max(steps, -steps) {
		if at := slices.Index(list, m.focus[i]); d > 0 {
			m.focus[i] = slices.Concat(list, list)[at+1]
		} else {
			m.focus[i] = slices.Concat(list, list)[at+len(list)-1]
		}
	}
	return 0
}

func (m *model) Shift(id, d int) api.Errno {
	tab := m.Tab(id)
	if tab == 0 {
		return 5
	}
	list := slices.Clone(m.tabs[tab-1])
	m.tabs[tab-1] = list
	for at := slices.Index(list, id); d > 0 && at < len(list)-1; at, d = at+1, d-1 {
		list[at], list[at+1] = list[at+1], list[at]
	}
	for at := slices.Index(list, id); d < 0 && at > 0; at, d = at-1, d+1 {
		list[at], list[at-1] = list[at-1], list[at]
	}
	return 0
}

func (m *model) Float(id int, r api.Rect) api.Errno {
	if m.Tab(id) == 0 {
		return 5
	}
	m.where[id] = r
	return 0
}

func (m *model) Tile(id int) api.Errno {
	if m.Tab(id) == 0 {
		return 5
	}
	delete(m.where, id)
	return 0
}

// plan is how n tiled panes lie.
func (m *model) plan(n int) api.Plan {
	p, code := api.Plan{}, api.ErrLayout
	if i := swap.Choose(m.rules, n); i >= 0 {
		bare := m.rules[i].Plan
		bare.Float = nil
		p, code = swap.Fit(bare, n)
	}
	if code != 0 {
		p, _ = swap.Fit(leaf(""), n)
	}
	return p
}

func (m *model) Places() (list []panes.Place) {
	if len(m.tabs) == 0 {
		return nil
	}
	var over []panes.Place
	for _, id := range m.tabs[m.shown-1] {
		focus := m.focus[m.shown-1] == id
		if r, ok := m.where[id]; ok {
			// Layer 10 lays a floating pane of a plan that has a leaf besides.
			spots := layout.Place(api.Plan{Kind: 1, Float: []api.Rect{rect.Clean(r)}}, m.area)
			over = append(over, panes.Place{Id: id, Rect: spots[1].Rect, Z: len(over) + 1, Focus: focus})
		} else {
			list = append(list, panes.Place{Id: id, Focus: focus})
		}
	}
	for i, spot := range layout.Place(m.plan(len(list)), m.area) {
		list[i].Rect, list[i].Title = spot.Rect, spot.Title
	}
	return append(list, over...)
}

func (m *model) Tabs() int { return len(m.tabs) }

func (m *model) Shown() int { return m.shown }

func (m *model) Panes(tab int) []int {
	for i, list := range m.tabs {
		if tab == i+1 {
			return list
		}
	}
	return nil
}

func (m *model) Focused(tab int) int {
	for i, id := range m.focus {
		if tab == i+1 {
			return id
		}
	}
	return 0
}

func (m *model) Tab(id int) int {
	for i, list := range m.tabs {
		if slices.Contains(list, id) {
			return i + 1
		}
	}
	return 0
}

func (m *model) At(x, y int) int {
	id := 0
	for _, p := range m.Places() { // those that hide come behind those that are hidden
		if rect.Has(p.Rect, x, y) {
			id = p.Id
		}
	}
	return id
}

// asked is what a space and a model can be asked.
type asked interface {
	Tabs() int
	Shown() int
	Panes(tab int) []int
	Focused(tab int) int
	Tab(id int) int
	Places() []panes.Place
	At(x, y int) int
}

// told is what a space or a model tells of its tabs, and of panes with numbers up to one.
func told(x asked, last int) string {
	var out strings.Builder
	fmt.Fprint(&out, x.Tabs(), " tabs, ", x.Shown(), " shown:")
	for tab := -1; tab <= mostTabs+1; tab++ {
		fmt.Fprint(&out, " ", len(x.Panes(tab)), x.Panes(tab), x.Focused(tab))
	}
	fmt.Fprint(&out, "; panes' tabs:")
	for id := -1; id <= last+1; id++ {
		fmt.Fprint(&out, " ", x.Tab(id))
	}
	fmt.Fprintf(&out, "; places: %+v", x.Places())
	return out.String()
}

// cells is what a space or a model has at the cells of an area, and at those around it.
func cells(x asked, area api.Rect) (list []int) {
	for j := -1; j <= area.H; j++ {
		for i := -1; i <= area.W; i++ {
			list = append(list, x.At(area.X+i, area.Y+j))
		}
	}
	return list
}

// both lets a space and its model do one call, and holds what they answer against each other.
type both struct {
	t *testing.T
	s *panes.Space
	m *model
}

func begin(t *testing.T, area api.Rect, rules []swap.Rule) *both {
	t.Helper()
	s := panes.New(area, rules)
	if s == nil {
		t.Fatal("New = nil")
	}
	return &both{t: t, s: s, m: &model{area: rect.Clean(area), rules: copiedRules(rules), where: map[int]api.Rect{}}}
}

// sees holds all that is told against the model.
func (b *both) sees() {
	b.t.Helper()
	if got, want := told(b.s, b.m.last), told(b.m, b.m.last); got != want {
		b.t.Fatalf("tells\n%s, not\n%s", got, want)
	}
}

// looks holds what is at cells against the model.
func (b *both) looks() {
	b.t.Helper()
	if got, want := cells(b.s, b.m.area), cells(b.m, b.m.area); !slices.Equal(got, want) {
		b.t.Fatalf("has %v, not %v; %s", got, want, told(b.s, b.m.last))
	}
}

func (b *both) same(what string, got, want any) {
	b.t.Helper()
	if got != want {
		b.t.Fatalf("%s = %v, not %v; %s", what, got, want, told(b.s, b.m.last))
	}
}

func (b *both) openTab() {
	b.t.Helper()
	id, code := b.s.OpenTab()
	want, wrong := b.m.OpenTab()
	b.same("OpenTab()", [2]int{id, int(code)}, [2]int{want, int(wrong)})
}

func (b *both) open() {
	b.t.Helper()
	id, code := b.s.Open()
	want, wrong := b.m.Open()
	b.same("Open()", [2]int{id, int(code)}, [2]int{want, int(wrong)})
}

func (b *both) close(id int) {
	b.t.Helper()
	b.same(fmt.Sprintf("Close(%d)", id), b.s.Close(id), b.m.Close(id))
}

func (b *both) focus(id int) {
	b.t.Helper()
	b.same(fmt.Sprintf("Focus(%d)", id), b.s.Focus(id), b.m.Focus(id))
}

func (b *both) shows(tab int) {
	b.t.Helper()
	b.same(fmt.Sprintf("Go(%d)", tab), b.s.Go(tab), b.m.Go(tab))
}

func (b *both) turn(d int) {
	b.t.Helper()
	b.same(fmt.Sprintf("Turn(%d)", d), b.s.Turn(d), b.m.Turn(d))
}

func (b *both) shift(id, d int) {
	b.t.Helper()
	b.same(fmt.Sprintf("Shift(%d, %d)", id, d), b.s.Shift(id, d), b.m.Shift(id, d))
}

func (b *both) float(id int, r api.Rect) {
	b.t.Helper()
	b.same(fmt.Sprintf("Float(%d, %v)", id, r), b.s.Float(id, r), b.m.Float(id, r))
}

func (b *both) tile(id int) {
	b.t.Helper()
	b.same(fmt.Sprintf("Tile(%d)", id), b.s.Tile(id), b.m.Tile(id))
}

func (b *both) resize(area api.Rect) {
	b.s.Resize(area)
	b.m.Resize(area)
}
