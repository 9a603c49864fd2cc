package swap_test

import (
	"math/rand"
	"slices"
	"testing"

	"casement/api"
	"casement/kdl"
	"casement/layout"
)

func at(x, y, w, h int) api.Rect { return api.Rect{X: x, Y: y, W: w, H: h} }

func fixed(n int) api.Size { return api.Size{Kind: 1, N: n} }

func percent(n int) api.Size { return api.Size{Kind: 2, N: n} }

func leaf(name string) api.Plan { return api.Plan{Kind: 1, Name: name} }

func cols(kids ...api.Plan) api.Plan { return api.Plan{Kind: 2, Kids: kids} }

func rows(kids ...api.Plan) api.Plan { return api.Plan{Kind: 3, Kids: kids} }

func stack(kids ...api.Plan) api.Plan { return api.Plan{Kind: 4, Kids: kids} }

// sized is a plan of another size.
func sized(s api.Size, p api.Plan) api.Plan {
	p.Size = s
	return p
}

// floats is a plan with floating panes.
func floats(p api.Plan, rs ...api.Rect) api.Plan {
	p.Float = rs
	return p
}

// boxes are n floating panes.
func boxes(n int) []api.Rect {
	var list []api.Rect
	for i := range n {
		list = append(list, at(i, -i, 5, 5+i))
	}
	return list
}

// many are leaves, named from a on.
func many(n int) []api.Plan {
	var list []api.Plan
	for i := range n {
		list = append(list, leaf(string(rune('a'+i))))
	}
	return list
}

// blank are leaves without a name.
func blank(n int) []api.Plan { return slices.Repeat([]api.Plan{leaf("")}, n) }

// nest puts a plan into so many others.
func nest(p api.Plan, n int) api.Plan {
	for range n {
		p = cols(p)
	}
	return p
}

func pick[T any](rnd *rand.Rand, of ...T) T { return of[rnd.Intn(len(of))] }

// same tells whether plans are the same; a list that is nil and one that is empty are.
func same(a, b api.Plan) bool {
	return a.Kind == b.Kind && a.Size == b.Size && a.Name == b.Name && slices.Equal(a.Float, b.Float) && slices.EqualFunc(a.Kids, b.Kids, same)
}

// copied shares nothing with the plan.
func copied(p api.Plan) api.Plan {
	p.Float = slices.Clone(p.Float)
	var kids []api.Plan
	for _, kid := range p.Kids {
		kids = append(kids, copied(kid))
	}
	p.Kids = kids
	return p
}

// spoil writes over a list and its spare room.
func spoil[T any](list []T, v T) {
	list = list[:cap(list)]
	for i := range list {
		list[i] = v
	}
}

// spoilPlan writes over all lists of a plan.
func spoilPlan(p api.Plan) {
	for _, kid := range p.Kids {
		spoilPlan(kid)
	}
	spoil(p.Kids, api.Plan{Kind: 9, Name: "spoilt"})
	spoil(p.Float, at(9, 9, 9, 9))
}

// each goes through a plan's lists of kids.
func each(p api.Plan, yield func(kids []api.Plan)) {
	yield(p.Kids)
	for _, kid := range p.Kids {
		each(kid, yield)
	}
}

// someTree is a right plan, if it hasn't too many leaves, within so many others at most, and without floating panes.
func someTree(rnd *rand.Rand, depth int) api.Plan {
	p := api.Plan{Kind: 1, Size: pick(rnd, api.Size{}, api.Size{}, fixed(1+rnd.Intn(200)), percent(1+rnd.Intn(100)))}
	if depth == 0 || rnd.Intn(3) == 0 {
		p.Name = pick(rnd, "", "a", "b c", "d", "e", "f", "\"")
		return p
	}
	p.Kind = 2 + rnd.Intn(3)
	if p.Kind == 4 {
		depth = 1
	}
	n := 1 + rnd.Intn(4)
	if rnd.Intn(8) == 0 {
		n, depth = 14+rnd.Intn(3), 1
	}
	for range n {
		p.Kids = append(p.Kids, someTree(rnd, depth-1))
	}
	return p
}

// somePlan is a right plan, if it hasn't too many panes. Some are as deep as may be.
func somePlan(rnd *rand.Rand) api.Plan {
	p := someTree(rnd, rnd.Intn(4))
	if rnd.Intn(6) == 0 {
		p = nest(p, rnd.Intn(12))
	}
	if rnd.Intn(6) == 0 {
		p = api.Plan{Kind: 2 + rnd.Intn(2), Kids: append([]api.Plan{p}, blank(13+rnd.Intn(3))...)}
	}
	for range rnd.Intn(4) * rnd.Intn(2) {
		p.Float = append(p.Float, at(rnd.Intn(30)-9, rnd.Intn(30), rnd.Intn(12)-2, rnd.Intn(12)))
	}
	return p
}

// harm makes one thing of a plan another, which may be wrong.
func harm(rnd *rand.Rand, p *api.Plan) {
	if len(p.Kids) > 0 && rnd.Intn(3) > 0 {
		harm(rnd, &p.Kids[rnd.Intn(len(p.Kids))])
		return
	}
	switch rnd.Intn(7) {
	case 0:
		p.Kind = pick(rnd, 0, 1, 2, 3, 4, 5, -1, 1<<32+1)
	case 1:
		p.Size = api.Size{Kind: pick(rnd, 0, 1, 2, 3, -1), N: pick(rnd, -1, 0, 1, 100, 101, 200, 201)}
	case 2:
		p.Kids = nil
	case 3:
		p.Kids = append(p.Kids, many(rnd.Intn(20))...)
	case 4:
		p.Float = append(p.Float, boxes(rnd.Intn(26))...)
	case 5:
		p.Kids = append(p.Kids, someTree(rnd, 2))
	case 6:
		p.Name = "other"
	}
}

// tangled are plans that can't be gone through: they are within themselves, or have kids that are the same ones again and again.
func tangled() map[string]api.Plan {
	circle := blank(2)
	circle[1] = cols(circle...)
	first := blank(2)
	first[0] = rows(first...)
	shared := leaf("")
	for range 40 {
		shared = cols(slices.Repeat([]api.Plan{shared}, 16)...)
	}
	bare := cols()
	for range 11 {
		bare = cols(slices.Repeat([]api.Plan{bare}, 16)...)
	}
	return map[string]api.Plan{
		"within itself":        circle[1],
		"within itself, first": first[0],
		"shared":               shared,
		"shared, without leaf": bare,
		"very deep":            nest(leaf(""), 60000),
		"very wide":            stack(blank(1 << 16)...),
	}
}

// nodesOf are a text's nodes.
func nodesOf(t *testing.T, s string) []api.Node {
	t.Helper()
	ns, fault := kdl.Parse(s)
	if fault != (api.Fault{}) {
		t.Fatalf("Parse(%q) = %v", s, fault)
	}
	return ns
}

// planOf is the plan that a text says within a layout.
func planOf(t *testing.T, s string) api.Plan {
	t.Helper()
	p, code := layout.Read(nodesOf(t, "layout { "+s+" }")[0])
	if code != 0 {
		t.Fatalf("no plan in %q: %d", s, code)
	}
	return p
}
