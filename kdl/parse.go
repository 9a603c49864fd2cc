package kdl

import "casement/api"

// parser goes through tokens, up to their end or the first fault.
type parser struct {
	tokens []api.Token // those that are not taken yet
	end    int         // where the text ends
	begun  int         // how many nodes have a name already
}

// peek is the token that comes next. Behind the last one comes one of no kind, where the text ends.
func (p *parser) peek() api.Token {
	if len(p.tokens) == 0 {
		return api.Token{At: p.end}
	}
	return p.tokens[0]
}

// take is the token that comes next, and passes over it.
func (p *parser) take() api.Token {
	t := p.peek()
	p.tokens = p.tokens[min(1, len(p.tokens)):]
	return t
}

// isSign tells whether a token is this sign.
func isSign(t api.Token, sign string) bool { return t.Kind == api.Sign && t.Text == sign }

// isName tells whether a token may name something.
func isName(t api.Token) bool { return t.Kind == api.Word || t.Kind == api.Quote }

// isValue tells whether a token may be a value.
func isValue(t api.Token) bool { return isName(t) || t.Kind == api.Int }

// fault is what is wrong at a token.
func fault(code api.Errno, t api.Token) api.Fault { return api.Fault{Code: code, At: t.At} }

// stray is what is wrong with a token that can't stand where it does.
func stray(t api.Token) api.Fault {
	if t.Kind == 0 {
		return fault(api.ErrEnd, t)
	}
	return fault(api.ErrNode, t)
}

// list reads the nodes that stand in so many { , up to where these end.
func (p *parser) list(depth int) ([]api.Node, api.Fault) {
	var nodes []api.Node
	for {
		for p.peek().Kind == api.Break {
			p.take()
		}
		if p.closes(depth) {
			return nodes, api.Fault{}
		}
		node, flaw := p.node(depth)
		if flaw.Code != api.OK {
			return nil, flaw
		}
		nodes = append(nodes, node)
	}
}

// closes tells whether what comes next ends the nodes that stand in so many { .
func (p *parser) closes(depth int) bool {
	if depth == 0 {
		return p.peek().Kind == 0
	}
	return isSign(p.peek(), "}")
}

// node reads a node that stands in so many { .
func (p *parser) node(depth int) (api.Node, api.Fault) {
	name := p.take()
	if !isName(name) {
		return api.Node{}, stray(name)
	}
	p.begun++
	if p.begun > api.MaxNodes {
		return api.Node{}, fault(api.ErrMany, name)
	}
	node := api.Node{Name: name.Text}
	if flaw := p.parts(&node); flaw.Code != api.OK {
		return api.Node{}, flaw
	}
	if flaw := p.kids(&node, depth); flaw.Code != api.OK {
		return api.Node{}, flaw
	}
	// Whether an end or a } may stand just here, hangs on the list around; it looks at them itself.
	if next := p.peek(); next.Kind != 0 && next.Kind != api.Break && !isSign(next, "}") {
		return api.Node{}, stray(next)
	}
	return node, api.Fault{}
}

// parts reads a node's values and properties.
func (p *parser) parts(node *api.Node) api.Fault {
	again := twice()
	for isValue(p.peek()) {
		t := p.take()
		if !isName(t) || !isSign(p.peek(), "=") {
			node.Args = append(node.Args, value(t))
			continue
		}
		// Ahead of what is wrong behind the = , since it stands ahead of it.
		if again(t.Text) {
			return fault(api.ErrTwice, t)
		}
		p.take()
		v := p.take()
		if !isValue(v) {
			return stray(v)
		}
		node.Props = append(node.Props, api.Prop{Name: t.Text, Val: value(v)})
	}
	return api.Fault{}
}

// kids reads a node's kids, if it has a { .
func (p *parser) kids(node *api.Node, depth int) api.Fault {
	open := p.peek()
	if !isSign(open, "{") {
		return api.Fault{}
	}
	if depth >= api.MaxDepth {
		return fault(api.ErrDeep, open)
	}
	p.take()
	kids, flaw := p.list(depth + 1)
	if flaw.Code != api.OK {
		return flaw
	}
	p.take()
	node.Kids = kids
	return api.Fault{}
}

// value is the value that a token is.
func value(t api.Token) api.Val {
	switch {
	case t.Kind == api.Int:
		return api.Val{Kind: api.VInt, Int: t.Int}
	case t.Kind == api.Quote:
		return api.Val{Kind: api.VText, Text: t.Text}
	case t.Text == "true" || t.Text == "false":
		return api.Val{Kind: api.VBool, Bool: t.Text == "true"}
	case t.Text == "null":
		return api.Val{Kind: api.VNull}
	}
	return api.Val{Kind: api.VText, Text: t.Text}
}
