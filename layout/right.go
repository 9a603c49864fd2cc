package layout

import (
	"slices"

	"casement/api"
	"casement/solve"
)

// leaves is how many leaves a plan has, and whether it is right. It ends at the first thing that is wrong: plans may
// share kids, or be within themselves, so that few of them make more than could ever be gone through.
func leaves(p api.Plan) (int, bool) {
	n := 0
	var right func(p api.Plan, depth int) bool
	right = func(p api.Plan, depth int) bool {
		if depth > api.MaxDepth || solve.Check(p.Size) != api.OK {
			return false
		}
		if p.Kind == api.Leaf {
			n++
			return n <= api.MaxPanes
		}
		wrong := func(kid api.Plan) bool { return !mayHold(p, kid) || !right(kid, depth+1) }
		return hasKids(p) && !slices.ContainsFunc(p.Kids, wrong)
	}
	ok := right(p, 1) && n+len(p.Float) <= api.MaxPanes
	return n, ok
}

// hasKids tells whether a plan is of a kind that has kids, and has as many as it may have.
func hasKids(p api.Plan) bool {
	switch p.Kind {
	case api.Cols, api.Rows, api.Stack:
		return len(p.Kids) >= 1 && len(p.Kids) <= api.MaxParts
	}
	return false
}

// mayHold tells whether a plan's kind lets it have a kid of this kind.
func mayHold(p, kid api.Plan) bool { return p.Kind != api.Stack || kid.Kind == api.Leaf }
