package kdl_test

import (
	"math"
	"slices"
	"strings"
	"testing"

	"casement/api"
	"casement/kdl"
)

func TestP8_1_TextTable(t *testing.T) {
	for _, x := range []struct {
		nodes []api.Node
		text  string
	}{
		{nil, ""},
		{[]api.Node{}, ""},
		{named("a"), "a\n"},
		{named("a", "b"), "a\nb\n"},
		{named(""), "\"\"\n"},
		{named("1", "-1", "-", "--1", "a1", "1a", "a b", "a=", "{", ";", "//", "true", "null"), "\"1\"\n\"-1\"\n-\n--1\na1\n\"1a\"\n\"a b\"\n\"a=\"\n\"{\"\n\";\"\n\"//\"\ntrue\nnull\n"},
		{named("\"", "\\", "\n", "\t", "\\n", "a\"b\\c\nd\te"), "\"\\\"\"\n\"\\\\\"\n\"\\n\"\n\"\\t\"\n\"\\\\n\"\n\"a\\\"b\\\\c\\nd\\te\"\n"},
		{named("\u00e9", "\u4e2d\"\u4e2d", "\xff\"\xe4\n\xb8\xad"), "\"\u00e9\"\n\"\u4e2d\\\"\u4e2d\"\n\"\xff\\\"\xe4\\n\xb8\xad\"\n"},
		{[]api.Node{{Name: "a", Args: []api.Val{text("b"), text("true"), text(""), text("1"), text("\"\\\n\t")}}}, "a \"b\" \"true\" \"\" \"1\" \"\\\"\\\\\\n\\t\"\n"},
		{[]api.Node{{Name: "a", Args: []api.Val{number(0), number(7), number(-7), number(math.MaxInt64), number(math.MinInt64)}}}, "a 0 7 -7 9223372036854775807 -9223372036854775808\n"},
		{[]api.Node{{Name: "a", Args: []api.Val{truth(true), truth(false), null}}}, "a true false null\n"},
		{[]api.Node{{Name: "a", Props: []api.Prop{prop("x", number(1)), prop("y z", text("w")), prop("", null), prop("true", truth(false)), prop("1", number(1))}}}, "a x=1 \"y z\"=\"w\" \"\"=null true=false \"1\"=1\n"},
		{[]api.Node{{Name: "a", Props: []api.Prop{prop("x", number(1))}, Args: []api.Val{text("x")}, Kids: named("b")}}, "a \"x\" x=1 {\n    b\n}\n"},
		{[]api.Node{{Name: "a", Kids: []api.Node{}}}, "a\n"},
		{[]api.Node{{Name: "a b", Kids: []api.Node{{Name: "c", Kids: named("d", "e")}, {Name: "f"}}}, {Name: "g"}}, "\"a b\" {\n    c {\n        d\n        e\n    }\n    f\n}\ng\n"},
		// fields that a kind doesn't name
		{[]api.Node{{Name: "a", Args: []api.Val{{Kind: 1, Text: "b", Int: 5, Bool: true}, {Kind: 2, Text: "\x00", Int: 5, Bool: true}, {Kind: 3, Text: "\x7f", Int: 5}, {Kind: 4, Text: "\r", Int: 5, Bool: true}}}}, "a \"b\" 5 false null\n"},
		{[]api.Node{{Name: "a", Props: []api.Prop{prop("x", api.Val{Kind: 2, Text: "\x00"}), prop("y", api.Val{Kind: 4, Text: "\x1f"})}}}, "a x=0 y=null\n"},
		// names that are there twice, but not of one node's properties
		{[]api.Node{{Name: "a", Args: []api.Val{text("a"), text("a")}, Props: []api.Prop{prop("a", text("a")), prop("A", text("a"))}, Kids: []api.Node{{Name: "a", Props: []api.Prop{prop("a", null)}}}}, {Name: "a", Props: []api.Prop{prop("a", null)}}}, "a \"a\" \"a\" a=\"a\" A=\"a\" {\n    a a=null\n}\na a=null\n"},
	} {
		if got, code := kdl.Text(x.nodes); got != x.text || code != 0 {
			t.Errorf("Text(%v) = %q, %d, not %q", x.nodes, got, code, x.text)
		}
		writes(t, x.nodes)
	}
}

// nest puts nodes into so many others.
func nest(ns []api.Node, n int) []api.Node {
	for range n {
		ns = []api.Node{{Name: "n", Kids: ns}}
	}
	return ns
}

// many are nodes with the name a.
func many(n int) []api.Node { return named(slices.Repeat([]string{"a"}, n)...) }

// two has a property twice.
func two(name string) []api.Node {
	return []api.Node{{Name: "two", Props: []api.Prop{prop(name, null), prop("other", null), prop(name, number(1))}}}
}

// withArg, withProp are a node that has a value.
func withArg(v api.Val) []api.Node { return []api.Node{{Name: "a", Args: []api.Val{null, v}}} }
func withProp(p api.Prop) []api.Node {
	return []api.Node{{Name: "a", Props: []api.Prop{prop("first", null), p}}}
}

func join(lists ...[]api.Node) []api.Node { return slices.Concat(lists...) }

func TestP8_1_TextErrorsTable(t *testing.T) {
	bad, long := named("\x01"), named(strings.Repeat("a", 5000))
	for _, x := range []struct {
		nodes []api.Node
		code  api.Errno
	}{
		{many(300), 0},
		{many(301), 3},
		{many(100000), 3},
		{append(many(299), api.Node{Name: "a", Kids: named("b")}), 3},
		{[]api.Node{{Name: "a", Kids: many(299)}}, 0},
		{[]api.Node{{Name: "a", Kids: many(300)}}, 3},
		{nest(named("a"), 12), 0},
		{nest(named("a"), 13), 4},
		{nest(named("a"), 40), 4},
		{nest([]api.Node{{Kids: []api.Node{}}}, 12), 0},
		// nodes within more than 12 others don't count
		{nest(many(288), 12), 2},
		{nest(many(289), 12), 3},
		{nest(many(300), 13), 4},
		{nest(many(10000), 13), 4},
		{nest(many(10000), 14), 4},
		{join(many(287), nest(many(10000), 13)), 4},
		{join(many(288), nest(many(10000), 13)), 3},
		{join(nest(many(10000), 13), many(288)), 3},
		{bad, 1},
		{named("\x00"), 1}, {named("\x08"), 1}, {named("\x0b"), 1}, {named("\r"), 1}, {named("\x1f"), 1}, {named("a\x7f"), 1},
		{named(" "), 0}, {named("\t"), 0}, {named("\n"), 0}, {named("\x80"), 0}, {named("\u0085"), 0},
		{withArg(api.Val{}), 1}, {withArg(api.Val{Kind: 5}), 1}, {withArg(api.Val{Kind: -1}), 1}, {withArg(api.Val{Kind: math.MaxInt}), 1}, {withArg(api.Val{Kind: math.MinInt}), 1}, {withArg(text("\r")), 1}, {withArg(text("a\x7f")), 1},
		{withProp(prop("x", api.Val{})), 1}, {withProp(prop("x", api.Val{Kind: 5})), 1}, {withProp(prop("x", text("\x02"))), 1}, {withProp(prop("\x02", null)), 1},
		{nest(withArg(api.Val{}), 12), 1},
		{two("x"), 81}, {two(""), 81}, {two("a b"), 81},
		{join(named("a"), nest(two("x"), 12)), 81},
		{long, 2},
		{withArg(text(strings.Repeat("\"", 2050))), 2},
		// in the order in which they are named, wherever they stand
		{join(long, two("x"), bad, nest(named("a"), 13), many(300)), 3},
		{join(long, two("x"), bad, nest(named("a"), 13)), 4},
		{join(long, two("x"), bad), 1},
		{join(long, two("x")), 81},
		{join(nest(bad, 13), two("x")), 4},
		{join(nest(two("x"), 12), withProp(prop("x", api.Val{}))), 1},
		{[]api.Node{{Name: "a", Props: []api.Prop{prop("x", null), prop("x", api.Val{})}}}, 1},
		{[]api.Node{{Name: "a", Props: []api.Prop{prop("\x01", null), prop("\x01", null)}}}, 1},
		{nest(two("x"), 13), 4},
	} {
		got, code := kdl.Text(x.nodes)
		if code != x.code || code != 0 && got != "" {
			t.Errorf("Text(%.200v) = %.100q, %d, not %d", x.nodes, got, code, x.code)
		}
		writes(t, x.nodes)
	}
}

func TestP8_1_TextOfEachByte(t *testing.T) {
	for c := range 256 {
		s := string([]byte{byte(c)})
		for _, x := range []string{s, "a" + s, s + "a", "a" + s + s + "\u4e2d"} {
			writes(t, named(x))
			writes(t, withArg(text(x)))
			writes(t, withProp(prop(x, text(x))))
			readsBack(t, named(x))
		}
	}
}

func TestP8_1_TextOfAsManyBytesAsMayBe(t *testing.T) {
	for _, x := range []struct {
		nodes func(n int) []api.Node
		fits  int // so many bytes of a name or a text do just go
	}{
		{func(n int) []api.Node { return named(strings.Repeat("a", n)) }, 4095},
		{func(n int) []api.Node { return named(strings.Repeat(" ", n)) }, 4093},
		{func(n int) []api.Node { return named(strings.Repeat("\n", n)) }, 2046},
		{func(n int) []api.Node { return named("a\"" + strings.Repeat("\u4e2d", n)) }, 1363},
		{func(n int) []api.Node { return withArg(text(strings.Repeat("a", n))) }, 4086},
		{func(n int) []api.Node { return withProp(prop(strings.Repeat("a", n), number(12))) }, 4079},
		{func(n int) []api.Node { return nest(named(strings.Repeat("a", n)), 1) }, 4085},
		{func(n int) []api.Node { return join(named(strings.Repeat("a", n)), named("b")) }, 4093},
	} {
		if got, code := kdl.Text(x.nodes(x.fits)); code != 0 || len(got) > 4096 || len(got) < 4094 {
			t.Errorf("%.50v: %d bytes, %d", x.nodes(1), len(got), code)
		}
		for n := x.fits - 3; n < x.fits+4; n++ {
			writes(t, x.nodes(n))
		}
		readsBack(t, x.nodes(x.fits))
	}
}

func TestP8_1_TextOfHugeLists(t *testing.T) {
	shared := many(100000) // few nodes, that have the same kids, make more of them than could be gone through
	for range 13 {
		shared = slices.Repeat([]api.Node{{Name: "a", Kids: shared}}, 1000)
	}
	narrow := named("a")
	for range 60000 {
		narrow = []api.Node{{Name: "a", Kids: narrow}}
	}
	circle := named("a")
	circle[0].Kids = circle
	wide := []api.Node{{Name: "a", Args: slices.Repeat([]api.Val{number(1)}, 1<<20)}}
	var props []api.Prop
	for i := range 1 << 17 {
		props = append(props, prop(strings.Repeat("a", i%300)+"-"+strings.Repeat("b", i/300), null))
	}
	name := strings.Repeat("a\n", 1<<22)
	for _, x := range []struct {
		what  string
		nodes []api.Node
		code  api.Errno
	}{
		{"kids that are shared", shared, 3},
		{"very deep", narrow, 4},
		{"within itself", circle, 4},
		{"many values", wide, 2},
		{"many properties", []api.Node{{Name: "a", Props: props}}, 2},
		{"many properties, and one again", []api.Node{{Name: "a", Props: append(slices.Clip(props), props[7])}}, 81},
		{"a long name", named(name), 2},
		{"a long name, with a wrong byte", named(name + "\x01"), 1},
		{"a long text", withArg(text(name)), 2},
		{"many nodes", slices.Repeat(wide, 1<<20), 3},
	} {
		if got, code := kdl.Text(x.nodes); got != "" || code != x.code {
			t.Errorf("%s: %d bytes, %d, not %d", x.what, len(got), code, x.code)
		}
	}
}

func TestP8_4_TextLeavesItsArgumentsAlone(t *testing.T) {
	args := []api.Val{number(1), text("a\n"), null, truth(true), text("behind")}
	props := []api.Prop{prop("z", number(1)), prop("y", text("b")), prop("behind", null)}
	kids := []api.Node{{Name: "z"}, {Name: "b"}, {Name: "behind"}}
	ns := []api.Node{{Name: "n", Args: args[:4], Props: props[:2], Kids: kids[:2]}, {Name: "m", Args: args[:1]}, {Name: "behind"}}
	before := copied(ns)
	first, code := kdl.Text(ns[:2])
	if code != 0 || !same(ns, before) {
		t.Errorf("Text leaves %v, %d", ns, code)
	}
	if args[4] != text("behind") || props[2] != prop("behind", null) || kids[2].Name != "behind" {
		t.Errorf("Text leaves %v, %v, %v", args, props, kids)
	}
	const want = "n 1 \"a\\n\" null true z=1 y=\"b\" {\n    z\n    b\n}\nm 1\n"
	spoil(ns)
	if first != want {
		t.Errorf("behind nodes that were written over: %q", first)
	}
}
