package swap_test

import (
	"slices"
	"testing"

	"casement/api"
	"casement/layout"
	"casement/swap"
)

// modelPlain is a plan with what its kinds name alone.
func modelPlain(p api.Plan, outermost bool) api.Plan {
	q := api.Plan{Kind: p.Kind, Size: p.Size}
	if outermost {
		q.Float = slices.Clone(p.Float)
	}
	if p.Kind == 1 {
		q.Name = p.Name
		return q
	}
	for _, kid := range p.Kids {
		q.Kids = append(q.Kids, modelPlain(kid, false))
	}
	return q
}

func modelDepth(p api.Plan) int {
	deepest := 0
	for _, kid := range p.Kids {
		deepest = max(deepest, modelDepth(kid))
	}
	return deepest + 1
}

func modelNames(p api.Plan) []string {
	if layout.Check(p) != 0 {
		return nil
	}
	var list []string
	var walk func(p api.Plan)
	walk = func(p api.Plan) {
		if p.Kind == 1 {
			list = append(list, p.Name)
			return
		}
		for _, kid := range p.Kids {
			walk(kid)
		}
	}
	walk(p)
	return list
}

// modelLess is a plan without its last leaf, and whether nothing is left of it.
func modelLess(p api.Plan) (api.Plan, bool) {
	if p.Kind == 1 {
		return p, true
	}
	last := len(p.Kids) - 1
	kid, gone := modelLess(p.Kids[last])
	kids := slices.Clone(p.Kids[:last])
	if !gone {
		kids = append(kids, kid)
	}
	p.Kids = kids
	return p, len(kids) == 0
}

// modelPath are a plan, its last kid and so on, as long as these aren't leaves.
func modelPath(p api.Plan) []api.Plan {
	var path []api.Plan
	for p.Kind != 1 {
		path = append(path, p)
		p = p.Kids[len(p.Kids)-1]
	}
	return path
}

// modelMore is a plan with a leaf more.
func modelMore(p api.Plan) api.Plan {
	path := modelPath(p)
	i := len(path) - 1
	for i >= 0 && len(path[i].Kids) == 16 {
		i--
	}
	if i < 0 {
		around := floats(rows(floats(p), leaf("")), p.Float...)
		return around
	}
	changed := path[i]
	changed.Kids = append(slices.Clone(changed.Kids), leaf(""))
	for i--; i >= 0; i-- {
		outer := path[i]
		outer.Kids = slices.Clone(outer.Kids)
		outer.Kids[len(outer.Kids)-1] = changed
		changed = outer
	}
	return changed
}

// modelFit is what Fit is to answer.
func modelFit(p api.Plan, n int) (api.Plan, api.Errno) {
	if n < 1 || n > 24 || n+len(p.Float) > 24 {
		return api.Plan{}, 1
	}
	if layout.Check(p) != 0 {
		return api.Plan{}, 100
	}
	p = modelPlain(p, true)
	for len(modelNames(p)) > n {
		p, _ = modelLess(p)
	}
	for len(modelNames(p)) < n {
		if p = modelMore(p); modelDepth(p) > 12 {
			return api.Plan{}, 4
		}
	}
	return p, 0
}

// fits holds Fit to its model, and to what is promised of its answers.
func fits(t *testing.T, p api.Plan, n int) (api.Plan, api.Errno) {
	t.Helper()
	got, code := swap.Fit(p, n)
	if want, wanted := modelFit(p, n); !same(got, want) || code != wanted {
		t.Fatalf("Fit(%v, %d) = %v, %d, not %v, %d", p, n, got, code, want, wanted)
	}
	if code != 0 {
		return got, code
	}
	had, has := swap.Names(p), swap.Names(got)
	kept := min(len(had), n)
	if layout.Check(got) != 0 || len(has) != n || !slices.Equal(has[:kept], had[:kept]) {
		t.Fatalf("Fit(%v, %d) = %v, whose names are %q", p, n, got, has)
	}
	if len(had) == n && !same(got, modelPlain(p, true)) {
		t.Fatalf("Fit(%v, %d) = %v", p, n, got)
	}
	return got, code
}
