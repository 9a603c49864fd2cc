package layout_test

import (
	"math"
	"math/rand"
	"slices"
	"strings"
	"testing"

	"casement/api"
	"casement/kdl"
	"casement/layout"
)

func TestP10_1_ReadTable(t *testing.T) {
	for _, x := range []struct {
		s string
		p api.Plan
	}{
		{"layout { cols { pane size=4; rows { pane; pane } } }", cols(sized(fixed(4), leaf("")), rows(leaf(""), leaf("")))},
		{"layout { pane }", leaf("")},
		{"layout { pane a size=3 }", sized(fixed(3), leaf("a"))},
		{"layout { pane; pane size=\"50%\" }", rows(leaf(""), sized(percent(50), leaf("")))},
		{"layout { pane a; cols { pane b }; stack { pane c } }", rows(leaf("a"), cols(leaf("b")), stack(leaf("c")))},
		{"layout { rows { pane } }", rows(leaf(""))},
		{"layout { stack size=9 { pane a size=1; pane b } }", sized(fixed(9), stack(sized(fixed(1), leaf("a")), leaf("b")))},
		{"layout { cols size=\"7%\" { rows size=200 { pane } } }", sized(percent(7), cols(sized(fixed(200), rows(leaf("")))))},
		// floating panes, anywhere
		{"layout { float; pane }", floats(leaf(""), empty)},
		{"layout { float x=1 y=2 w=3 h=4; pane a; float w=9 h=9; pane b; float h=5 x=-7 w=6 }", floats(rows(leaf("a"), leaf("b")), at(1, 2, 3, 4), at(0, 0, 9, 9), at(-7, 0, 6, 5))},
		{"layout { cols { pane }; float w=1 h=1 }", floats(cols(leaf("")), at(0, 0, 1, 1))},
		// as layer 2 cleans
		{"layout { pane; float x=-5001 y=9999 w=201 h=5; float x=4999 w=201 h=5; float w=0 h=5 x=3; float x=5 y=6 w=7; float w=-1 h=9 }", floats(leaf(""), empty, at(4999, 0, 1, 5), empty, empty, empty)},
		{"layout { pane; float x=-9223372036854775808 y=-5001 w=9223372036854775807 h=201 }", floats(leaf(""), at(-5000, -5000, 200, 200))},
		// properties that aren't ints
		{"layout { pane; float x=\"1\" y=true w=3 h=4; float x=null y=y w=3 h=4; float x=1 y=1 w=\"3\" h=4 }", floats(leaf(""), at(0, 0, 3, 4), at(0, 0, 3, 4), empty)},
		// names: the first value, if it is a text
		{"layout { pane a b; pane 3 c; pane true; pane \"true\" null; pane null d; pane \"\"; pane \"a b\" size=2 }", rows(leaf("a"), leaf(""), leaf(""), leaf("true"), leaf(""), leaf(""), sized(fixed(2), leaf("a b")))},
		{"layout { pane size=2 a; pane name=a; cols a { pane }; stack b { pane } }", rows(sized(fixed(2), leaf("a")), leaf(""), cols(leaf("")), stack(leaf("")))},
		// sizes
		{"layout { pane size=1; pane size=200; pane size=007 }", rows(sized(fixed(1), leaf("")), sized(fixed(200), leaf("")), sized(fixed(7), leaf("")))},
		{"layout { pane size=\"1%\"; pane size=\"100%\"; pane size=\"07%\"; pane size=\"099%\"; pane size=\"001%\" }", rows(sized(percent(1), leaf("")), sized(percent(100), leaf("")), sized(percent(7), leaf("")), sized(percent(99), leaf("")), sized(percent(1), leaf("")))},
		{"layout { pane size=\"7\"; pane size=\"\"; pane size=\"%\"; pane size=\"0100%\"; pane size=\"-5%\"; pane size=\"+5%\"; pane size=\" 5%\"; pane size=\"5 %\"; pane size=\"5%%\"; pane size=\"%5\"; pane size=\"5.%\"; pane size=\"0x5%\"; pane size=\"5%\\n\" }", rows(many(13)...)},
		{"layout { pane size=\"\u0665%\"; pane size=\"\uff15%\"; pane size=\"5\u066a\"; pane size=\"5\uff05\"; pane size=\"1_0%\"; pane size=\"1e1%\"; pane size=\"/5%\"; pane size=\":5%\"; pane size=\"5:%\" }", rows(many(9)...)},
		{"layout { pane size=true; pane size=null; pane size=half; pane Size=0; pane sizes=0 }", rows(many(5)...)},
		// other values and properties
		{"layout 0 pane size=0 min=3 { pane 1 2 x=1; cols 5 y=\"\" w=3 { pane }; float a 7 z=9 size=0 w=1 h=2 }", floats(rows(leaf(""), cols(leaf(""))), at(0, 0, 1, 2))},
		// kids of panes
		{"layout { pane { nothing; layout; pane size=0 }; float w=1 h=1 { pane; float } }", floats(leaf(""), at(0, 0, 1, 1))},
		{"layout { stack { pane { cols { pane } } } }", stack(leaf(""))},
		// as many, and as deep, as may be
		{"layout {" + strings.Repeat("pane;", 16) + "}", rows(many(16)...)},
		{"layout {" + strings.Repeat("cols {"+strings.Repeat("pane;", 12)+"};", 2) + "}", rows(cols(many(12)...), cols(many(12)...))},
		{"layout {" + strings.Repeat("float;", 23) + "pane }", floats(leaf(""), slices.Repeat([]api.Rect{empty}, 23)...)},
		{"layout {" + strings.Repeat("cols {", 11) + "pane a" + strings.Repeat("}", 12), nest(leaf("a"), 11)},
	} {
		if got, code := layout.Read(parsed(t, x.s)); !same(got, x.p) || code != 0 {
			t.Errorf("Read(%s) = %v, %d, not %v", x.s, got, code, x.p)
		}
		reads(t, parsed(t, x.s))
	}
}

func TestP10_1_ReadErrorsTable(t *testing.T) {
	for _, s := range []string{
		"other { pane }", "pane", "rows { pane }", "\"\" { pane }", "Layout { pane }", "layouts { pane }", "float", "stack { pane }",
		"layout", "layout {}", "layout a pane", "layout { float w=1 h=1 }", "layout { float { pane } }",
		"layout { nothing }", "layout { pane; nothing }", "layout { pane; \"\" }", "layout { pane; layout { pane } }", "layout { Pane }", "layout { pane; panes }", "layout { pane; cols { pane; other } }", "layout { stack { pane; other } }",
		"layout { cols { pane; float } }", "layout { rows { float; pane } }", "layout { stack { pane; float } }",
		"layout { cols }", "layout { rows }", "layout { stack }", "layout { pane; cols {} }", "layout { rows { pane; stack {} } }",
		"layout { stack { cols { pane } } }", "layout { stack { pane; rows { pane } } }", "layout { stack { stack { pane }; pane } }",
		"layout { pane size=0 }", "layout { pane size=-1 }", "layout { pane size=201 }", "layout { pane; pane size=9223372036854775807 }", "layout { pane size=-9223372036854775808 }", "layout { pane size=4294967297 }",
		"layout { pane size=\"0%\" }", "layout { pane size=\"00%\" }", "layout { pane size=\"000%\" }", "layout { pane size=\"101%\" }", "layout { pane size=\"999%\" }",
		"layout { cols size=0 { pane } }", "layout { pane; rows size=\"0%\" { pane } }", "layout { stack size=201 { pane } }", "layout { stack { pane; pane size=0 } }",
		"layout {" + strings.Repeat("pane;", 17) + "}",
		"layout { cols {" + strings.Repeat("pane;", 17) + "} }",
		"layout { stack {" + strings.Repeat("pane;", 17) + "} }",
		"layout {" + strings.Repeat("cols {"+strings.Repeat("pane;", 12)+"};", 2) + "pane }",
		"layout {" + strings.Repeat("cols {"+strings.Repeat("pane;", 12)+"};", 2) + "float }",
		"layout { float; " + strings.Repeat("cols {"+strings.Repeat("pane;", 12)+"};", 2) + "}",
		"layout {" + strings.Repeat("float;", 24) + "pane }",
		"layout {" + strings.Repeat("float;", 200) + "pane }",
		"layout { pane;" + strings.Repeat("cols {", 11) + "pane" + strings.Repeat("}", 12),
	} {
		if got, code := layout.Read(parsed(t, s)); !same(got, api.Plan{}) || code != 100 {
			t.Errorf("Read(%s) = %v, %d", s, got, code)
		}
		reads(t, parsed(t, s))
	}
}

// Nodes that no text says.
func TestP10_1_ReadOfNodesTable(t *testing.T) {
	in := func(kids ...api.Node) api.Node { return node("layout", kids...) }
	deep := func(n int) api.Node {
		p := node("pane")
		for range n {
			p = node("cols", p)
		}
		return p
	}
	for _, x := range []struct {
		n api.Node
		p api.Plan
	}{
		{api.Node{}, api.Plan{}},
		// of several properties of a name the first one
		{in(with(node("pane"), prop("size", number(3)), prop("size", number(0)))), sized(fixed(3), leaf(""))},
		{in(with(node("pane"), prop("a", number(1)), prop("size", text("x")), prop("size", number(3)))), leaf("")},
		{in(with(node("pane"), prop("size", number(0)), prop("size", number(3)))), api.Plan{}},
		{in(node("pane"), with(node("float"), prop("w", number(3)), prop("h", number(3)), prop("w", number(4)), prop("x", text("1")), prop("x", number(1)))), floats(leaf(""), at(0, 0, 3, 3))},
		// fields that a value's kind doesn't name, and values of no kind
		{in(with(node("pane"), prop("size", api.Val{Kind: 2, Int: 3, Text: "5%", Bool: true}))), sized(fixed(3), leaf(""))},
		{in(with(node("pane"), prop("size", api.Val{Kind: 1, Int: 3, Text: "5%"}))), sized(percent(5), leaf(""))},
		{in(with(node("pane"), prop("size", api.Val{Kind: 3, Int: 3, Text: "5%"}))), leaf("")},
		{in(with(node("pane"), prop("size", api.Val{Kind: 0, Int: 3, Text: "5%"}))), leaf("")},
		{in(with(node("pane"), prop("size", api.Val{Kind: 5, Int: 3, Text: "5%"}))), leaf("")},
		{in(api.Node{Name: "pane", Args: []api.Val{{Kind: 2, Text: "a"}, text("b")}}), leaf("")},
		{in(api.Node{Name: "pane", Args: []api.Val{{Kind: 0, Text: "a"}}}), leaf("")},
		{in(api.Node{Name: "pane", Args: []api.Val{{Kind: 1, Text: "\xff\x00\r", Int: 5}}}), leaf("\xff\x00\r")},
		{in(node("pane"), with(node("float"), prop("w", api.Val{Kind: 2, Int: 3, Text: "9"}), prop("h", api.Val{Kind: 1, Int: 3}))), floats(leaf(""), empty)},
		{in(node("pane"), with(node("float"), prop("x", api.Val{Kind: 2, Int: math.MinInt64}), prop("y", api.Val{Kind: 2, Int: math.MaxInt64}), prop("w", number(1)), prop("h", number(1)))), floats(leaf(""), empty)},
		// a node within more than MaxDepth others, of which a text could say none
		{in(deep(11)), nest(leaf(""), 11)},
		{in(deep(12)), api.Plan{}},
		{in(deep(60000)), api.Plan{}},
		{in(deep(10), deep(10)), rows(nest(leaf(""), 10), nest(leaf(""), 10))},
		{in(node("pane"), deep(11)), api.Plan{}},
	} {
		var want api.Errno
		if x.p.Kind == 0 {
			want = api.ErrLayout
		}
		if got, code := layout.Read(x.n); !same(got, x.p) || code != want {
			t.Errorf("Read(%.300v) = %v, %d, not %v", x.n, got, code, x.p)
		}
		reads(t, x.n)
	}
}

func TestP10_1_NodesThatCannotBeGoneThrough(t *testing.T) {
	circle := []api.Node{node("pane"), node("float")}
	circle[1] = node("cols", circle...)
	first := []api.Node{node("pane"), node("pane")}
	first[0] = node("rows", first...)
	shared, bare, lines := node("pane"), node("cols"), node("pane")
	for range 40 {
		shared = node("cols", slices.Repeat([]api.Node{shared}, 16)...)
		bare = node("cols", slices.Repeat([]api.Node{bare}, 16)...)
	}
	for range 11 {
		lines = node("rows", slices.Repeat([]api.Node{lines}, 16)...)
	}
	bottom := node("cols")
	for range 10 {
		bottom = node("cols", slices.Repeat([]api.Node{bottom}, 16)...)
	}
	again := []api.Node{node("layout")}
	again[0].Kids = again
	for what, n := range map[string]api.Node{
		"within itself":             node("layout", circle...),
		"within itself, first":      node("layout", first...),
		"a layout within itself":    again[0],
		"shared":                    node("layout", shared),
		"shared, without pane":      node("layout", bare),
		"shared, bare at depth 11":  node("layout", bottom),
		"shared, as deep as may be": node("layout", lines),
		"many panes":                node("layout", slices.Repeat([]api.Node{node("pane")}, 1<<16)...),
		"many floating panes":       node("layout", slices.Repeat([]api.Node{node("float")}, 1<<16)...),
		"many kids of columns":      node("layout", node("cols", slices.Repeat([]api.Node{node("pane")}, 1<<16)...)),
	} {
		if got, code := layout.Read(n); !same(got, api.Plan{}) || code != 100 {
			t.Errorf("Read of a node that is %s = %v, %d", what, got, code)
		}
	}
	pane := node("pane", circle...)
	if got, code := layout.Read(node("layout", pane, node("float", again...))); !same(got, floats(leaf(""), empty)) || code != 0 {
		t.Errorf("Read of panes whose kids are let be = %v, %d", got, code)
	}
}

// mixed says a plan, with floating panes anywhere among the others, and with things that are let be.
func mixed(rnd *rand.Rand, p api.Plan) api.Node {
	n := node("layout")
	tree := said(p)
	if tree.Name == "rows" && len(tree.Kids) > 1 && p.Size == (api.Size{}) && rnd.Intn(2) == 0 {
		n.Kids = tree.Kids
	} else {
		n.Kids = []api.Node{tree}
	}
	from := 0
	for _, r := range p.Float {
		from += rnd.Intn(len(n.Kids) + 1 - from)
		n.Kids = slices.Insert(n.Kids, from, saidFloat(r))
		from++
	}
	litter(rnd, &n)
	return n
}

// litter adds things to nodes that are let be.
func litter(rnd *rand.Rand, n *api.Node) {
	for i := range n.Kids {
		litter(rnd, &n.Kids[i])
	}
	more := []api.Prop{prop("size", number(0)), prop("x", text("9")), prop("other", number(7)), prop("w", api.Val{Kind: 4}), prop("min", number(3))}
	if rnd.Intn(4) == 0 && len(n.Props) > 0 {
		n.Props = append(n.Props, n.Props[0], more[rnd.Intn(len(more))])
		n.Props[len(n.Props)-2].Val = number(77)
	}
	if rnd.Intn(4) == 0 && (n.Name == "float" || n.Name == "pane") {
		n.Kids = append(n.Kids, node("other"), node("pane"))
	}
	if rnd.Intn(4) == 0 && (n.Name != "pane" || len(n.Args) > 0) {
		n.Args = append(n.Args, text("other"), number(5))
	}
}

// plain is a plan as it is read back: a Flex one's N isn't said.
func plain(p api.Plan) api.Plan {
	p = copied(p)
	var flatten func(p *api.Plan)
	flatten = func(p *api.Plan) {
		if p.Size.Kind == 0 {
			p.Size = api.Size{}
		}
		for i := range p.Kids {
			flatten(&p.Kids[i])
		}
	}
	flatten(&p)
	return p
}

func TestP10_1_PlansThatAreSaidAreRead(t *testing.T) {
	rnd := rand.New(rand.NewSource(3))
	read := 0
	for range 20000 {
		p := somePlan(rnd)
		for i, r := range p.Float {
			p.Float[i] = modelFloat(saidFloat(r))
		}
		p = plain(p)
		n := mixed(rnd, p)
		reads(t, n)
		if !modelRight(p) {
			continue
		}
		read++
		if got, code := layout.Read(n); !same(got, p) || code != 0 {
			t.Fatalf("Read(%v) = %v, %d, not %v", n, got, code, p)
		}
	}
	if read < 15000 {
		t.Errorf("only %d plans", read)
	}
}

func TestP10_1_TextsOfPlansAreRead(t *testing.T) {
	rnd := rand.New(rand.NewSource(4))
	read := 0
	for range 5000 {
		p := plain(somePlan(rnd))
		p.Float = nil
		s, code := kdl.Text([]api.Node{node("layout", said(p))})
		if code != 0 || !modelRight(p) {
			continue
		}
		read++
		if got := readText(t, s); !same(got, p) {
			t.Fatalf("Read(%s) = %v, not %v", s, got, p)
		}
	}
	if read < 3000 {
		t.Errorf("only %d texts", read)
	}
}

// damage makes one thing of a node another, which may be wrong.
func damage(rnd *rand.Rand, n *api.Node) {
	if len(n.Kids) > 0 && rnd.Intn(3) > 0 {
		damage(rnd, &n.Kids[rnd.Intn(len(n.Kids))])
		return
	}
	switch rnd.Intn(6) {
	case 0:
		n.Name = pick(rnd, "pane", "cols", "rows", "stack", "float", "layout", "other", "")
	case 1:
		n.Kids = nil
	case 2:
		n.Kids = append(n.Kids, slices.Repeat([]api.Node{node(pick(rnd, "pane", "float"))}, rnd.Intn(20))...)
	case 3:
		n.Kids = append(n.Kids, said(nest(leaf("deep"), rnd.Intn(13))))
	case 4:
		name := pick(rnd, "size", "x", "y", "w", "h", "other")
		v := pick(rnd, number(0), number(5), number(201), number(-3), text("5%"), text("0%"), text("101%"), text("1000%"), text("5"), api.Val{Kind: 3}, api.Val{Kind: 4}, api.Val{})
		n.Props = slices.Insert(slices.Clip(n.Props), rnd.Intn(len(n.Props)+1), prop(name, v))
	case 5:
		n.Args = slices.Insert(slices.Clip(n.Args), 0, pick(rnd, text("name"), number(5), api.Val{Kind: 3, Text: "name"}))
	}
}

func TestP10_1_RandomNodesAreRead(t *testing.T) {
	rnd := rand.New(rand.NewSource(5))
	wrong := 0
	for range 20000 {
		n := mixed(rnd, somePlan(rnd))
		for range 1 + rnd.Intn(3) {
			damage(rnd, &n)
			reads(t, n)
		}
		if _, code := layout.Read(n); code != 0 {
			wrong++
		}
	}
	if wrong < 5000 || wrong > 16000 {
		t.Errorf("%d wrong ones of 20000", wrong)
	}
}

// sameNode tells whether nodes are the same.
func sameNode(a, b api.Node) bool {
	return a.Name == b.Name && slices.Equal(a.Args, b.Args) && slices.Equal(a.Props, b.Props) && slices.EqualFunc(a.Kids, b.Kids, sameNode)
}

// copiedNode shares nothing with the node.
func copiedNode(n api.Node) api.Node {
	n.Args, n.Props = slices.Clone(n.Args), slices.Clone(n.Props)
	var kids []api.Node
	for _, kid := range n.Kids {
		kids = append(kids, copiedNode(kid))
	}
	n.Kids = kids
	return n
}

func TestP10_3_ReadLeavesItsNodeAndKeepsNothing(t *testing.T) {
	rnd := rand.New(rand.NewSource(6))
	for range 5000 {
		n := mixed(rnd, somePlan(rnd))
		n.Kids = append(n.Kids, node("behind"))[:len(n.Kids)]
		before := copiedNode(n)
		got, _ := layout.Read(n)
		want := copied(got)
		if !sameNode(n, before) || n.Kids[:len(n.Kids)+1][len(n.Kids)].Name != "behind" {
			t.Fatalf("Read leaves %v, not %v", n, before)
		}
		for i := range n.Kids {
			spoil(n.Kids[i].Props, prop("size", number(0)))
			spoil(n.Kids[i].Args, text("spoilt"))
			spoil(n.Kids[i].Kids, node("spoilt"))
		}
		spoil(n.Kids, node("spoilt"))
		if !same(got, want) {
			t.Fatalf("behind a node that was written over: %v, not %v", got, want)
		}
	}
}

// each goes through a plan's lists of kids.
func each(p api.Plan, yield func(kids []api.Plan)) {
	yield(p.Kids)
	for _, kid := range p.Kids {
		each(kid, yield)
	}
}

func TestP10_3_ReadAnswersNewMemory(t *testing.T) {
	const s = "layout { float w=1 h=1; cols size=4 { pane a; pane b; pane c; rows { pane d; pane e; pane f } }; float w=2 h=2; pane g; stack { pane h }; float w=3 h=3 }"
	n := parsed(t, s)
	want := readText(t, s)
	first, _ := layout.Read(n)
	second, _ := layout.Read(n)
	spoilPlan(first)
	if third, _ := layout.Read(n); !same(second, want) || !same(third, want) {
		t.Errorf("behind a Read whose answer was written over: %v, %v", second, third)
	}
	// What is appended to one list is no other one's.
	var lists int
	each(second, func(kids []api.Plan) {
		lists++
		spoil(kids[len(kids):], leaf("spoilt"))
	})
	spoil(second.Float[len(second.Float):], at(7, 7, 7, 7))
	if !same(second, want) || lists != 12 {
		t.Errorf("behind %d lists to which was appended: %v", lists, second)
	}
}
