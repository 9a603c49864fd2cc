package swap

import "casement/api"

// first is a right plan with its first n leaves alone, and how many it lacks. It has only what its kinds name, and no floating panes.
func first(p api.Plan, n int) (api.Plan, int) {
	q := api.Plan{Kind: p.Kind, Size: p.Size}
	if p.Kind == api.Leaf {
		q.Name = p.Name
		return q, n - 1
	}
	for _, kid := range p.Kids {
		// A kid that is come to now would lose all its leaves, and goes with them.
		if n == 0 {
			break
		}
		var part api.Plan
		part, n = first(kid, n)
		q.Kids = append(q.Kids, part)
	}
	return q, n
}

// grown is a plan with a leaf more, which may make it too deep. The plan's memory becomes that one's.
func grown(p api.Plan) api.Plan {
	more := api.Plan{Kind: api.Leaf}
	if q := room(&p); q != nil {
		q.Kids = append(q.Kids, more)
		return p
	}
	return api.Plan{Kind: api.Rows, Kids: []api.Plan{p, more}}
}

// room is the deepest split or stack along the last kids that may have a kid more; nil: there is none.
func room(p *api.Plan) *api.Plan {
	if p.Kind == api.Leaf {
		return nil
	}
	if within := room(&p.Kids[len(p.Kids)-1]); within != nil {
		return within
	}
	if len(p.Kids) < api.MaxParts {
		return p
	}
	return nil
}
