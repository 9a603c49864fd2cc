package layout_test

import (
	"regexp"
	"slices"
	"strconv"
	"testing"

	"casement/api"
	"casement/layout"
	"casement/rect"
	"casement/solve"
)

// every tells whether a plan and all that is within it are so.
func every(p api.Plan, is func(p api.Plan) bool) bool {
	if !is(p) {
		return false
	}
	if p.Kind != 1 {
		for _, kid := range p.Kids {
			if !every(kid, is) {
				return false
			}
		}
	}
	return true
}

func modelDepth(p api.Plan) int {
	deepest := 0
	if p.Kind != 1 {
		for _, kid := range p.Kids {
			deepest = max(deepest, modelDepth(kid))
		}
	}
	return deepest + 1
}

func modelLeaves(p api.Plan) int {
	n := 0
	every(p, func(p api.Plan) bool {
		if p.Kind == 1 {
			n++
		}
		return true
	})
	return n
}

// modelRight is what Check is to answer OK to; of plans that can be gone through.
func modelRight(p api.Plan) bool {
	shaped := every(p, func(p api.Plan) bool {
		if p.Kind == 4 && slices.ContainsFunc(p.Kids, func(kid api.Plan) bool { return kid.Kind != 1 }) {
			return false
		}
		return p.Kind == 1 || p.Kind >= 2 && p.Kind <= 4 && len(p.Kids) > 0 && len(p.Kids) < 17
	})
	sizes := every(p, func(p api.Plan) bool { return solve.Check(p.Size) == 0 })
	return shaped && sizes && modelDepth(p) < 13 && modelLeaves(p)+len(p.Float) < 25
}

// modelPlace is what Place is to answer.
func modelPlace(p api.Plan, r api.Rect) []api.Spot {
	if !modelRight(p) {
		return nil
	}
	r = rect.Clean(r)
	spots := modelLeafSpots(p, r)
	for i, f := range p.Float {
		spots = append(spots, api.Spot{Rect: rect.Into(rect.Shift(f, r.X, r.Y), r), Z: i + 1})
	}
	for i := range spots {
		spots[i].Pane = i
	}
	return spots
}

// box is the rectangle of these numbers, if it has cells.
func box(x, y, w, h int) api.Rect {
	if w < 1 || h < 1 {
		return empty
	}
	return at(x, y, w, h)
}

func modelLeafSpots(p api.Plan, r api.Rect) []api.Spot {
	var spots []api.Spot
	switch p.Kind {
	case 1:
		return []api.Spot{{Rect: r}}
	case 2, 3:
		side := r.W
		if p.Kind == 3 {
			side = r.H
		}
		begin := 0
		for i, n := range modelLengths(p.Kids, side) {
			part := box(r.X+begin, r.Y, n, r.H)
			if p.Kind == 3 {
				part = box(r.X, r.Y+begin, r.W, n)
			}
			spots = append(spots, modelLeafSpots(p.Kids[i], part)...)
			begin += n
		}
	case 4:
		top := 0
		for range p.Kids[1:] {
			title := api.Spot{Title: true}
			if r.H-top > 1 {
				title.Rect = box(r.X, r.Y+top, r.W, 1)
				top++
			}
			spots = append(spots, title)
		}
		spots = append(spots, api.Spot{Rect: box(r.X, r.Y+top, r.W, r.H-top)})
	}
	return spots
}

func modelLengths(kids []api.Plan, side int) []int {
	if side >= len(kids) {
		var sizes []api.Size
		for _, kid := range kids {
			sizes = append(sizes, kid.Size)
		}
		list, _ := solve.Share(side, sizes)
		return list
	}
	list := make([]int, len(kids))
	for i := range side {
		list[i] = 1
	}
	return list
}

// modelRead is what Read is to answer; of nodes that can be gone through.
func modelRead(n api.Node) (api.Plan, api.Errno) {
	if n.Name != "layout" {
		return api.Plan{}, 100
	}
	isFloat := func(n api.Node) bool { return n.Name == "float" }
	p := modelTree(node("rows", slices.DeleteFunc(slices.Clone(n.Kids), isFloat)...))
	if len(p.Kids) == 1 {
		p = p.Kids[0]
	}
	for _, kid := range n.Kids {
		if isFloat(kid) {
			p.Float = append(p.Float, modelFloat(kid))
		}
	}
	if !modelRight(p) {
		return api.Plan{}, 100
	}
	return p, 0
}

// firsts are a node's properties by their names.
func firsts(n api.Node) map[string]api.Val {
	values := map[string]api.Val{}
	for _, p := range slices.Backward(n.Props) {
		values[p.Name] = p.Val
	}
	return values
}

var hundredths = regexp.MustCompile(`^([0-9]{1,3})%$`)

// modelTree is the plan that a node says; of another name one of no kind.
func modelTree(n api.Node) api.Plan {
	p := api.Plan{Kind: map[string]int{"pane": 1, "cols": 2, "rows": 3, "stack": 4}[n.Name]}
	size := firsts(n)["size"]
	if size.Kind == 2 {
		p.Size = fixed(int(size.Int))
	}
	if found := hundredths.FindStringSubmatch(size.Text); size.Kind == 1 && found != nil {
		hundredth, _ := strconv.Atoi(found[1])
		p.Size = percent(hundredth)
	}
	if p.Kind == 1 {
		if len(n.Args) > 0 && n.Args[0].Kind == 1 {
			p.Name = n.Args[0].Text
		}
		return p
	}
	for _, kid := range n.Kids {
		p.Kids = append(p.Kids, modelTree(kid))
	}
	return p
}

func modelFloat(n api.Node) api.Rect {
	var numbers [4]int
	for i, name := range []string{"x", "y", "w", "h"} {
		if v := firsts(n)[name]; v.Kind == 2 {
			numbers[i] = int(v.Int)
		}
	}
	return rect.Clean(at(numbers[0], numbers[1], numbers[2], numbers[3]))
}

// reads holds Read to the model.
func reads(t *testing.T, n api.Node) {
	t.Helper()
	got, code := layout.Read(n)
	want, wrong := modelRead(n)
	if !same(got, want) || code != wrong {
		t.Fatalf("Read(%v) = %v, %d, not %v, %d", n, got, code, want, wrong)
	}
}

// checks holds Check and Count to the model.
func checks(t *testing.T, p api.Plan) {
	t.Helper()
	want, leaves, floats := api.ErrLayout, 0, 0
	if modelRight(p) {
		want, leaves, floats = 0, modelLeaves(p), len(p.Float)
	}
	if got := layout.Check(p); got != want {
		t.Fatalf("Check(%v) = %d, not %d", p, got, want)
	}
	if n, m := layout.Count(p); n != leaves || m != floats {
		t.Fatalf("Count(%v) = %d, %d, not %d, %d", p, n, m, leaves, floats)
	}
}

// places holds Place to the model.
func places(t *testing.T, p api.Plan, r api.Rect) []api.Spot {
	t.Helper()
	got := layout.Place(p, r)
	if want := modelPlace(p, r); !slices.Equal(got, want) {
		t.Fatalf("Place(%v, %v) = %v, not %v", p, r, got, want)
	}
	return got
}
