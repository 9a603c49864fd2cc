package layout_test

import (
	"math/rand"
	"slices"
	"strconv"
	"testing"

	"casement/api"
	"casement/kdl"
	"casement/layout"
)

var empty = api.Rect{}

func at(x, y, w, h int) api.Rect { return api.Rect{X: x, Y: y, W: w, H: h} }

func fixed(n int) api.Size { return api.Size{Kind: 1, N: n} }

func percent(n int) api.Size { return api.Size{Kind: 2, N: n} }

func leaf(name string) api.Plan { return api.Plan{Kind: 1, Name: name} }

func cols(kids ...api.Plan) api.Plan { return api.Plan{Kind: 2, Kids: kids} }

func rows(kids ...api.Plan) api.Plan { return api.Plan{Kind: 3, Kids: kids} }

func stack(kids ...api.Plan) api.Plan { return api.Plan{Kind: 4, Kids: kids} }

// sized is a plan of another size.
func sized(s api.Size, p api.Plan) api.Plan {
	p.Size = s
	return p
}

// floats is a plan with floating panes.
func floats(p api.Plan, rs ...api.Rect) api.Plan {
	p.Float = rs
	return p
}

// many are leaves.
func many(n int) []api.Plan { return slices.Repeat([]api.Plan{leaf("")}, n) }

// nest puts a plan into so many others.
func nest(p api.Plan, n int) api.Plan {
	for range n {
		p = cols(p)
	}
	return p
}

func pick[T any](rnd *rand.Rand, of ...T) T { return of[rnd.Intn(len(of))] }

// same tells whether plans are the same; a list that is nil and one that is empty are.
func same(a, b api.Plan) bool {
	return a.Kind == b.Kind && a.Size == b.Size && a.Name == b.Name && slices.Equal(a.Float, b.Float) && slices.EqualFunc(a.Kids, b.Kids, same)
}

// copied shares nothing with the plan.
func copied(p api.Plan) api.Plan {
	p.Float = slices.Clone(p.Float)
	var kids []api.Plan
	for _, kid := range p.Kids {
		kids = append(kids, copied(kid))
	}
	p.Kids = kids
	return p
}

// spoil writes over a list and its spare room.
func spoil[T any](list []T, v T) {
	list = list[:cap(list)]
	for i := range list {
		list[i] = v
	}
}

// spoilPlan writes over all lists of a plan.
func spoilPlan(p api.Plan) {
	for _, kid := range p.Kids {
		spoilPlan(kid)
	}
	spoil(p.Kids, api.Plan{Kind: 9, Name: "spoilt"})
	spoil(p.Float, at(9, 9, 9, 9))
}

// someSize is a right one.
func someSize(rnd *rand.Rand) api.Size {
	return pick(rnd, api.Size{}, api.Size{}, fixed(1+rnd.Intn(6)), fixed(1+rnd.Intn(200)), percent(1+rnd.Intn(100)), api.Size{N: rnd.Intn(9) - 4})
}

// someTree is a right plan, if it hasn't too many leaves, within so many others at most, and without floating panes.
func someTree(rnd *rand.Rand, depth int) api.Plan {
	p := api.Plan{Kind: 1, Size: someSize(rnd)}
	if depth == 0 || rnd.Intn(3) == 0 {
		p.Name = pick(rnd, "", "a", "b c", "\"")
		return p
	}
	p.Kind = 2 + rnd.Intn(3)
	for range 1 + rnd.Intn(4) {
		if p.Kind == 4 {
			depth = 1
		}
		p.Kids = append(p.Kids, someTree(rnd, depth-1))
	}
	return p
}

// somePlan is a right plan, if it hasn't too many panes.
func somePlan(rnd *rand.Rand) api.Plan {
	p := someTree(rnd, rnd.Intn(4))
	for range rnd.Intn(4) * rnd.Intn(2) {
		p.Float = append(p.Float, somewhere(rnd))
	}
	return p
}

// somewhere is a rectangle, mostly one that is close to 0.
func somewhere(rnd *rand.Rand) api.Rect {
	one := func() int {
		return pick(rnd, rnd.Intn(12)-2, rnd.Intn(12)-2, rnd.Intn(30), rnd.Intn(300)-50, rnd.Intn(12000)-6000)
	}
	return at(one(), one(), one(), one())
}

// harm makes one thing of a plan another, which may be wrong.
func harm(rnd *rand.Rand, p *api.Plan) {
	if len(p.Kids) > 0 && rnd.Intn(3) > 0 {
		harm(rnd, &p.Kids[rnd.Intn(len(p.Kids))])
		return
	}
	switch rnd.Intn(8) {
	case 0:
		p.Kind = pick(rnd, 0, 1, 2, 3, 4, 5, -1, 1<<32+1)
	case 1:
		p.Size = api.Size{Kind: pick(rnd, 0, 1, 2, 3, -1), N: pick(rnd, -1, 0, 1, 100, 101, 200, 201)}
	case 2:
		p.Kids = nil
	case 3:
		p.Kids = append(p.Kids, many(rnd.Intn(20))...)
	case 4:
		p.Kids = append(p.Kids, nest(leaf("deep"), rnd.Intn(13)))
	case 5:
		p.Float = append(p.Float, slices.Repeat([]api.Rect{at(1, 1, 1, 1)}, rnd.Intn(26))...)
	case 6:
		p.Kids = append(p.Kids, someTree(rnd, 2))
	case 7:
		p.Name = "other"
	}
}

// the nodes of layouts

func text(s string) api.Val { return api.Val{Kind: 1, Text: s} }

func number(n int) api.Val { return api.Val{Kind: 2, Int: int64(n)} }

func prop(name string, v api.Val) api.Prop { return api.Prop{Name: name, Val: v} }

func node(name string, kids ...api.Node) api.Node { return api.Node{Name: name, Kids: kids} }

// with is a node with properties.
func with(n api.Node, props ...api.Prop) api.Node {
	n.Props = props
	return n
}

// parsed is a text's only node.
func parsed(t *testing.T, s string) api.Node {
	t.Helper()
	ns, fault := kdl.Parse(s)
	if fault != (api.Fault{}) || len(ns) != 1 {
		t.Fatalf("Parse(%q) = %v, %v", s, ns, fault)
	}
	return ns[0]
}

// readText is the plan of a layout's text, which has one.
func readText(t *testing.T, s string) api.Plan {
	t.Helper()
	p, code := layout.Read(parsed(t, s))
	if code != 0 {
		t.Fatalf("Read(%q) = %v, %d", s, p, code)
	}
	return p
}

// said is the node that says a tree without floating panes.
func said(p api.Plan) api.Node {
	n := node([]string{"", "pane", "cols", "rows", "stack"}[p.Kind])
	if p.Kind == 1 && p.Name != "" {
		n.Args = []api.Val{text(p.Name)}
	}
	switch p.Size.Kind {
	case 1:
		n.Props = []api.Prop{prop("size", number(p.Size.N))}
	case 2:
		n.Props = []api.Prop{prop("size", text(strconv.Itoa(p.Size.N)+"%"))}
	}
	for _, kid := range p.Kids {
		n.Kids = append(n.Kids, said(kid))
	}
	return n
}

// saidFloat is the node that says a floating pane.
func saidFloat(r api.Rect) api.Node {
	return with(node("float"), prop("x", number(r.X)), prop("y", number(r.Y)), prop("w", number(r.W)), prop("h", number(r.H)))
}
