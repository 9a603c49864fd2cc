package layout

import (
	"slices"
	"strings"

	"casement/api"
	"casement/rect"
)

// reader reads nodes as plans. It ends at the first thing that can't come right: nodes may share kids, or be within
// themselves, so that few of them make more than could ever be gone through.
type reader struct {
	leaves int // how many are read already
}

// layout reads the node that a whole plan is, and tells whether that may come right.
func (r *reader) layout(n api.Node) (api.Plan, bool) {
	var nodes []api.Node
	var floats []api.Rect
	for _, kid := range n.Kids {
		if kid.Name == "float" {
			floats = append(floats, floating(kid))
		} else {
			nodes = append(nodes, kid)
		}
	}
	plans, ok := r.plans(nodes, 1)
	p := api.Plan{Kind: api.Rows, Kids: plans}
	if len(plans) == 1 {
		p = plans[0]
	}
	p.Float = floats
	return p, ok && n.Name == "layout"
}

// plans reads plans' nodes that lie so deep.
func (r *reader) plans(ns []api.Node, depth int) ([]api.Plan, bool) {
	var list []api.Plan
	for _, n := range ns {
		p, ok := r.plan(n, depth)
		if !ok {
			return nil, false
		}
		list = append(list, p)
	}
	return list, true
}

// plan reads a plan's node that lies so deep.
func (r *reader) plan(n api.Node, depth int) (api.Plan, bool) {
	p := api.Plan{Kind: kind(n.Name), Size: size(n)}
	if p.Kind == api.Leaf {
		p.Name = title(n)
		r.leaves++
		return p, r.leaves <= api.MaxPanes
	}
	// One without kids ends it, too: such have no leaf by which they would be counted.
	if p.Kind == 0 || len(n.Kids) == 0 || depth == api.MaxDepth {
		return api.Plan{}, false
	}
	kids, ok := r.plans(n.Kids, depth+1)
	p.Kids = kids
	return p, ok
}

// kind is the kind of the plans that a name stands for; 0: none.
func kind(name string) int {
	switch name {
	case "pane":
		return api.Leaf
	case "cols":
		return api.Cols
	case "rows":
		return api.Rows
	case "stack":
		return api.Stack
	}
	return 0
}

// title is the name that a pane's node gives it.
func title(n api.Node) string {
	if len(n.Args) == 0 || n.Args[0].Kind != api.VText {
		return ""
	}
	return n.Args[0].Text
}

// property is the first property of a name; without one, a value of no kind.
func property(n api.Node, name string) api.Val {
	at := slices.IndexFunc(n.Props, func(p api.Prop) bool { return p.Name == name })
	if at < 0 {
		return api.Val{}
	}
	return n.Props[at].Val
}

// size is how large a node wants its plan to be.
func size(n api.Node) api.Size {
	switch v := property(n, "size"); v.Kind {
	case api.VInt:
		return api.Size{Kind: api.Fixed, N: int(v.Int)}
	case api.VText:
		return percent(v.Text)
	}
	return api.Size{}
}

// percent is the size that a text says, if it is one to three digits and a %; else Flex.
func percent(s string) api.Size {
	digits, ok := strings.CutSuffix(s, "%")
	if !ok || len(digits) < 1 || len(digits) > 3 {
		return api.Size{}
	}
	p := api.Size{Kind: api.Percent}
	for _, c := range []byte(digits) {
		if c < '0' || c > '9' {
			return api.Size{}
		}
		p.N = 10*p.N + int(c-'0')
	}
	return p
}

// floating is the rectangle of a floating pane's node.
func floating(n api.Node) api.Rect {
	number := func(name string) int {
		if v := property(n, name); v.Kind == api.VInt {
			return int(v.Int)
		}
		return 0
	}
	return rect.Clean(api.Rect{X: number("x"), Y: number("y"), W: number("w"), H: number("h")})
}
