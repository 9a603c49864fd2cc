package kdl

import (
	"slices"

	"casement/api"
)

// placed is a node, and in how many others it stands.
type placed struct {
	node  api.Node
	depth int
}

// gather is the nodes that count, one behind the other. It ends as soon as there are too many: lists may be
// the kids of many nodes, so that few of them make more nodes than could ever be gone through.
func gather(ns []api.Node) []placed {
	var all []placed
	var add func(ns []api.Node, depth int)
	add = func(ns []api.Node, depth int) {
		for _, n := range ns {
			if depth > api.MaxDepth || len(all) > api.MaxNodes {
				return
			}
			all = append(all, placed{n, depth})
			add(n.Kids, depth+1)
		}
	}
	add(ns, 0)
	return all
}

// wrong is why nodes have no text, but that it would be too long.
func wrong(all []placed) api.Errno {
	switch {
	case len(all) > api.MaxNodes:
		return api.ErrMany
	case slices.ContainsFunc(all, placed.tooDeep):
		return api.ErrDeep
	case slices.ContainsFunc(all, placed.unwritable):
		return api.ErrArg
	case slices.ContainsFunc(all, placed.repeats):
		return api.ErrTwice
	}
	return api.OK
}

// tooDeep tells whether nodes within this one stand in too many others.
func (p placed) tooDeep() bool {
	return p.depth == api.MaxDepth && len(p.node.Kids) > 0
}

// unwritable tells whether a node has something that no text says.
func (p placed) unwritable() bool {
	badProp := func(x api.Prop) bool { return badText(x.Name) || badValue(x.Val) }
	return badText(p.node.Name) || slices.ContainsFunc(p.node.Args, badValue) || slices.ContainsFunc(p.node.Props, badProp)
}

// repeats tells whether a node has two properties of one name.
func (p placed) repeats() bool {
	again := twice()
	return slices.ContainsFunc(p.node.Props, func(x api.Prop) bool { return again(x.Name) })
}

// badValue tells whether no text says a value.
func badValue(v api.Val) bool {
	switch v.Kind {
	case api.VText:
		return badText(v.Text)
	case api.VInt, api.VBool, api.VNull:
		return false
	}
	return true
}

// badText tells whether no quotes hold a text.
func badText(s string) bool {
	for _, r := range s {
		if (r < 32 || r == 127) && escape(r) == "" {
			return true
		}
	}
	return false
}

// escape is what a rune stands as in quotes; "": as itself.
func escape(r rune) string {
	switch r {
	case '"':
		return `\"`
	case '\\':
		return `\\`
	case '\n':
		return `\n`
	case '\t':
		return `\t`
	}
	return ""
}
