package kdl_test

import (
	"strings"
	"testing"
	"unsafe"

	"casement/api"
	"casement/kdl"
)

func text(s string) api.Val  { return api.Val{Kind: 1, Text: s} }
func number(n int64) api.Val { return api.Val{Kind: 2, Int: n} }
func truth(is bool) api.Val  { return api.Val{Kind: 3, Bool: is} }

var null = api.Val{Kind: 4}

// named are nodes with nothing but names.
func named(names ...string) []api.Node {
	var list []api.Node
	for _, n := range names {
		list = append(list, api.Node{Name: n})
	}
	return list
}

func prop(name string, v api.Val) api.Prop { return api.Prop{Name: name, Val: v} }

func TestP8_1_ParseTable(t *testing.T) {
	for _, x := range []struct {
		text  string
		nodes []api.Node
	}{
		{"", nil},
		{" \n;;\n// a\n/* b */ ;", nil},
		{"a", named("a")},
		{"a\nb;c\n;\n\nd", named("a", "b", "c", "d")},
		{";\n;a;\n;b;\n", named("a", "b")},
		{"\"\"", named("")},
		{"\"a b\"; \"\\n\\\"\"", named("a b", "\n\"")},
		{"true; false; null; - ; .5", named("true", "false", "null", "-", ".5")},
		{"\"1\"", named("1")},
		{"a {}", named("a")},
		{"a {;\n;}", named("a")},
		{"a {} // b", named("a")},
		{"a {}; b {}\nc", named("a", "b", "c")},
		{"a{b}", []api.Node{{Name: "a", Kids: named("b")}}},
		{"a{b;}", []api.Node{{Name: "a", Kids: named("b")}}},
		{"a{\nb\n}\n", []api.Node{{Name: "a", Kids: named("b")}}},
		{"a { b; c } ; d", []api.Node{{Name: "a", Kids: named("b", "c")}, {Name: "d"}}},
		{"a{b{c}}", []api.Node{{Name: "a", Kids: []api.Node{{Name: "b", Kids: named("c")}}}}},
		{"a{b{c};d{}}", []api.Node{{Name: "a", Kids: []api.Node{{Name: "b", Kids: named("c")}, {Name: "d"}}}}},
		{"a 1 -2 \"3\" b \"true\" true false null \"null\" True", []api.Node{{Name: "a", Args: []api.Val{number(1), number(-2), text("3"), text("b"), text("true"), truth(true), truth(false), null, text("null"), text("True")}}}},
		{"a 007 -0 9223372036854775807 -9223372036854775808", []api.Node{{Name: "a", Args: []api.Val{number(7), number(0), number(1<<63 - 1), number(-1 << 63)}}}},
		{"a \"\" \"\\t\xff\"", []api.Node{{Name: "a", Args: []api.Val{text(""), text("\t\xff")}}}},
		{"a a a", []api.Node{{Name: "a", Args: []api.Val{text("a"), text("a")}}}},
		{"a x=1", []api.Node{{Name: "a", Props: []api.Prop{prop("x", number(1))}}}},
		{"a x = 1", []api.Node{{Name: "a", Props: []api.Prop{prop("x", number(1))}}}},
		{"a x/**/=/**/1", []api.Node{{Name: "a", Props: []api.Prop{prop("x", number(1))}}}},
		{"a \"x y\"=\"z\" \"\"=z z=null y=true w=false", []api.Node{{Name: "a", Props: []api.Prop{prop("x y", text("z")), prop("", text("z")), prop("z", null), prop("y", truth(true)), prop("w", truth(false))}}}},
		{"a true=null true null", []api.Node{{Name: "a", Args: []api.Val{truth(true), null}, Props: []api.Prop{prop("true", null)}}}},
		{"a x=1 x", []api.Node{{Name: "a", Args: []api.Val{text("x")}, Props: []api.Prop{prop("x", number(1))}}}},
		{"a x x=x x", []api.Node{{Name: "a", Args: []api.Val{text("x"), text("x")}, Props: []api.Prop{prop("x", text("x"))}}}},
		{"a x=1 X=2", []api.Node{{Name: "a", Props: []api.Prop{prop("x", number(1)), prop("X", number(2))}}}},
		{"a x=1 { b x=2 }; c x=3", []api.Node{{Name: "a", Props: []api.Prop{prop("x", number(1))}, Kids: []api.Node{{Name: "b", Props: []api.Prop{prop("x", number(2))}}}}, {Name: "c", Props: []api.Prop{prop("x", number(3))}}}},
		{"pane 1 size=2 x { a; b }", []api.Node{{Name: "pane", Args: []api.Val{number(1), text("x")}, Props: []api.Prop{prop("size", number(2))}, Kids: named("a", "b")}}},
	} {
		got, fault := kdl.Parse(x.text)
		if !same(got, x.nodes) || fault != (api.Fault{}) {
			t.Errorf("Parse(%q) = %v, %v, not %v", x.text, got, fault, x.nodes)
		}
		parses(t, x.text)
	}
}

func TestP8_1_FaultsTable(t *testing.T) {
	for _, x := range []struct {
		text string
		code api.Errno
		at   int
	}{
		// layer 7's, wherever they stand
		{"a \"", 71, 2},
		{"= #", 70, 2},
		{"} \"\\x\"", 72, 3},
		{"a=1 1x", 73, 4},
		{"= " + strings.Repeat(" ", 4096), 2, 0},
		// tokens that can't stand there
		{"=", 80, 0},
		{"{", 80, 0},
		{"}", 80, 0},
		{"1", 80, 0},
		{"-1 a", 80, 0},
		{";1", 80, 1},
		{"{}", 80, 0},
		{"a=1", 80, 1},
		{"a=", 80, 1},
		{"a =", 80, 2},
		{"a x=1=2", 80, 5},
		{"a x=y=2", 80, 5},
		{"a x==1", 80, 4},
		{"a 1=2", 80, 3},
		{"a \"x\"=\"y\"=", 80, 9},
		{"a x=;", 80, 4},
		{"a x=\n1", 80, 4},
		{"a x={", 80, 4},
		{"a x=}", 80, 4},
		{"a x\n=1", 80, 4},
		{"a }", 80, 2},
		{"a;}", 80, 2},
		{"a {} b", 80, 5},
		{"a {} 1", 80, 5},
		{"a {} =", 80, 5},
		{"a {} {}", 80, 5},
		{"a {} }", 80, 5},
		{"a {}\n{}", 80, 5},
		{"a { { } }", 80, 4},
		{"a { = }", 80, 4},
		{"a { 1 }", 80, 4},
		{"a { b = }", 80, 6},
		{"a { b } }", 80, 8},
		{"a { b x= }", 80, 9},
		{"a { b {} c }", 80, 9},
		{"a { b } c", 80, 8},
		{"a } x=1 x=2", 80, 2},
		// ends
		{"a x=", 82, 4},
		{"a x= // b", 82, 9},
		{"a \"x\" = ", 82, 8},
		{"a {", 82, 3},
		{"a {\n;", 82, 5},
		{"a { b", 82, 5},
		{"a { b {}", 82, 8},
		{"a { b { } ;  ", 82, 13},
		{"a { b x=", 82, 8},
		{"a{{", 80, 2},
		// properties that are there already
		{"a x=1 x=2", 81, 6},
		{"a x=1 \"x\"=2", 81, 6},
		{"a x=1 b y=2 c y=3", 81, 14},
		{"a x=1 x=1 x=1", 81, 6},
		{"a \"\"=1 \"\"=2", 81, 7},
		{"a { b x=1 x=1", 81, 10},
		{"a x=1 x=2 {", 81, 6},
		{"a x=1 x=2 }", 81, 6},
		{"a x=1 x=", 81, 6},
		{"a x=1 x={", 81, 6},
		{"a x=1 x==", 81, 6},
		{"a x=1 = x=2", 80, 6},
		{"a x=1 y= x=2", 80, 10},
		// depth
		{strings.Repeat("a{", 12) + "a{", 4, 25},
		{strings.Repeat("a{", 13) + strings.Repeat("}", 13), 4, 25},
		{strings.Repeat("a{", 12) + "{", 80, 24},
		{strings.Repeat("a{", 12) + "a x=1 x=1{", 81, 30},
		{strings.Repeat("a{", 12) + "a={", 80, 25},
		{strings.Repeat("a{", 12) + "a{}{", 4, 25},
		{strings.Repeat("a{", 12), 82, 24},
		{strings.Repeat("a{", 12) + "a", 82, 25},
		{strings.Repeat("a{", 40), 4, 25},
		// number
		{strings.Repeat("a;", 301), 3, 600},
		{strings.Repeat("a;", 300) + "\"b\" {", 3, 600},
		{strings.Repeat("a;", 300) + "=", 80, 600},
		{strings.Repeat("a;", 300) + "1", 80, 600},
		{strings.Repeat("a;", 299) + "a x=1 x=1;a", 81, 604},
		{"a{" + strings.Repeat("a;", 300), 3, 600},
		{strings.Repeat("a{a};", 151), 3, 750},
	} {
		got, fault := kdl.Parse(x.text)
		if len(got) != 0 || fault != (api.Fault{Code: x.code, At: x.at}) {
			t.Errorf("Parse(%.100q) = %v, %v, not %d at %d", x.text, got, fault, x.code, x.at)
		}
		parses(t, x.text)
	}
}

func TestP8_1_ParseAtTheLimits(t *testing.T) {
	for _, s := range []string{
		strings.Repeat("a;", 300),
		strings.Repeat("a;", 300) + "\n}",
		"a{" + strings.Repeat("a;", 299) + "}",
		strings.Repeat("a{a};", 150),
		strings.Repeat("a{", 12) + "a" + strings.Repeat("}", 12),
		strings.Repeat("a{", 12) + strings.Repeat("}", 12),
		strings.Repeat("a{};", 13),
		strings.Repeat("a{", 12) + "a" + strings.Repeat("};b{c", 12) + "}",
		"a " + strings.Repeat("1 ", 2047),
		"a " + strings.Repeat("{", 4094),
		"a" + strings.Repeat("}", 4095),
		strings.Repeat("a{", 2048),
		strings.Repeat(";", 4096),
		strings.Repeat(";", 4097),
		"\"" + strings.Repeat("a", 4094) + "\"",
	} {
		parses(t, s)
	}
	if ns, fault := kdl.Parse(strings.Repeat("a;", 300)); len(ns) != 300 || fault != (api.Fault{}) {
		t.Errorf("300 nodes: %d, %v", len(ns), fault)
	}
	ns, fault := kdl.Parse(strings.Repeat("a{", 12) + "b" + strings.Repeat("}", 12))
	for range 12 {
		if len(ns) != 1 || ns[0].Name != "a" {
			t.Fatalf("12 deep: %v, %v", ns, fault)
		}
		ns = ns[0].Kids
	}
	if !same(ns, named("b")) {
		t.Errorf("innermost: %v", ns)
	}
}

func TestP8_1_Numbers(t *testing.T) {
	for _, x := range []struct{ got, want int }{
		{api.VText, 1}, {api.VInt, 2}, {api.VBool, 3}, {api.VNull, 4}, {api.MaxNodes, 300}, {api.MaxDepth, 12}, {api.MaxText, 4096},
		{int(api.ErrNode), 80}, {int(api.ErrTwice), 81}, {int(api.ErrEnd), 82}, {int(api.ErrDeep), 4}, {int(api.ErrMany), 3}, {int(api.ErrArg), 1}, {int(api.ErrLong), 2},
	} {
		if x.got != x.want {
			t.Errorf("%d, not %d", x.got, x.want)
		}
	}
}

func TestP8_1_AllShortLinesOfTokens(t *testing.T) {
	texts := []string{""}
	for range 6 {
		var longer []string
		for _, s := range texts {
			for _, piece := range []string{"a ", "x ", "\"x\" ", "1 ", "= ", "{ ", "} ", "; "} {
				longer = append(longer, s+piece)
			}
		}
		for _, s := range longer {
			parses(t, s)
		}
		texts = longer
	}
}

// spoil writes over all that nodes' lists have, spare room too.
func spoil(ns []api.Node) {
	ns = ns[:cap(ns)]
	for i := range ns {
		spoil(ns[i].Kids)
		args := ns[i].Args[:cap(ns[i].Args)]
		for j := range args {
			args[j] = text("spoilt")
		}
		props := ns[i].Props[:cap(ns[i].Props)]
		for j := range props {
			props[j] = prop("spoilt", null)
		}
		ns[i] = api.Node{Name: "spoilt"}
	}
}

const layout = "pane 1 \"two\" size=2 x y=\"z\" { a 1 b=2 { c 3; d 4 }; \"b b\" 5 { e } }\nlast 6 7 x=8 { f; g }\nmore 9 10 11 x=1 y=2 z=3"

func TestP8_4_ParsedNodesAreNewMemory(t *testing.T) {
	want, _ := modelParse(layout)
	one, fault := kdl.Parse(layout)
	if !same(one, want) || fault != (api.Fault{}) {
		t.Fatalf("Parse = %v, %v", one, fault)
	}
	two, _ := kdl.Parse(layout)
	spoil(one)
	if !same(two, want) {
		t.Errorf("behind an answer that was written over: %v", two)
	}
	if three, _ := kdl.Parse(layout); !same(three, want) {
		t.Errorf("another time: %v", three)
	}
}

func TestP8_4_ParsedTextsMayBeWrittenOver(t *testing.T) {
	b := []byte(layout)
	got, _ := kdl.Parse(unsafe.String(unsafe.SliceData(b), len(b)))
	if string(b) != layout {
		t.Errorf("Parse leaves %q", b)
	}
	for i := range b {
		b[i] = 'Z'
	}
	if want, _ := modelParse(layout); !same(got, want) {
		t.Errorf("behind a text that was written over: %v", got)
	}
}

func TestP8_4_NoTwoListsShareMemory(t *testing.T) {
	const names = "a 1 x=1 {b 1 x=1 {c};d 1 x=1 {e}};f 1 x=1 {g}"
	for i := range 7 {
		ns, _ := kdl.Parse(names)
		want := copied(ns)
		fillSpare(inOrder(ns)[i])
		if !same(ns, want) {
			t.Errorf("node %d's lists reach into others: %v, not %v", i, ns, want)
		}
	}
}

// inOrder are all nodes, as they stand.
func inOrder(ns []api.Node) []api.Node {
	var list []api.Node
	for _, n := range ns {
		list = append(append(list, n), inOrder(n.Kids)...)
	}
	return list
}

// fillSpare writes into the spare room of a node's lists.
func fillSpare(n api.Node) {
	for range cap(n.Args) - len(n.Args) {
		n.Args = append(n.Args, text("spoilt"))
	}
	for range cap(n.Props) - len(n.Props) {
		n.Props = append(n.Props, prop("spoilt", null))
	}
	for range cap(n.Kids) - len(n.Kids) {
		n.Kids = append(n.Kids, api.Node{Name: "spoilt"})
	}
}
