package kdl_test

import (
	"math"
	"math/rand"
	"strings"
	"testing"

	"casement/api"
	"casement/kdl"
)

func pick[T any](rnd *rand.Rand, of ...T) T { return of[rnd.Intn(len(of))] }

// name is one that is a Word, or one that isn't.
func name(rnd *rand.Rand) string {
	return pick(rnd, "a", "b", "c", "pane", "size", "x", "y", "-", "a.b:c-1", "--5", "true", "null", "", "1", "-1", "1x", "a b", "\"", "\\", "\n", "\t", "// a", "{", "=", "\u00e9", "\u4e2d\"", "\xff\n\xe4")
}

func someValue(rnd *rand.Rand) api.Val {
	switch rnd.Intn(5) {
	case 0:
		return number(pick[int64](rnd, 0, 1, -1, 7, 12345, math.MaxInt64, math.MinInt64))
	case 1:
		return truth(rnd.Intn(2) == 0)
	case 2:
		return null
	}
	return text(name(rnd))
}

// someNodes are right ones, of which most have few things, within so many others at most.
func someNodes(rnd *rand.Rand, depth int) []api.Node {
	var list []api.Node
	for range rnd.Intn(4) {
		n := api.Node{Name: name(rnd)}
		for range rnd.Intn(3) {
			n.Args = append(n.Args, someValue(rnd))
		}
		names := map[string]int{}
		for range rnd.Intn(3) {
			p := prop(name(rnd), someValue(rnd))
			if names[p.Name]++; names[p.Name] == 1 {
				n.Props = append(n.Props, p)
			}
		}
		if depth > 0 && rnd.Intn(2) == 0 {
			n.Kids = someNodes(rnd, depth-1)
		}
		list = append(list, n)
	}
	return list
}

// spoken says nodes in one of the ways in which they may be said.
func spoken(rnd *rand.Rand, ns []api.Node) string {
	var b strings.Builder
	blank := func() string { return pick(rnd, " ", " ", "\t", "  ", "/**/", " /* {\n */ ") }
	stop := func() string { return pick(rnd, "\n", ";", ";\n", "\n\n ;", " // \" {\n", "\r\n") }
	for i, n := range ns {
		if i > 0 || rnd.Intn(4) == 0 {
			b.WriteString(stop())
		}
		b.WriteString(spokenName(rnd, n.Name))
		args, props := n.Args, n.Props
		for len(args)+len(props) > 0 {
			b.WriteString(blank())
			if len(props) == 0 || len(args) > 0 && rnd.Intn(2) == 0 {
				b.WriteString(spokenValue(rnd, args[0]))
				args = args[1:]
				continue
			}
			b.WriteString(spokenName(rnd, props[0].Name) + pick(rnd, "=", " = ", "=/**/") + spokenValue(rnd, props[0].Val))
			props = props[1:]
		}
		if len(n.Kids) > 0 || rnd.Intn(5) == 0 {
			b.WriteString(pick(rnd, "{", " { ") + spoken(rnd, n.Kids) + pick(rnd, "}", "\n}", "; } "))
		}
	}
	if rnd.Intn(2) == 0 {
		b.WriteString(stop())
	}
	return b.String()
}

func spokenName(rnd *rand.Rand, s string) string {
	if said := modelName(s); rnd.Intn(3) > 0 {
		return said
	}
	return modelQuoted(s)
}

func spokenValue(rnd *rand.Rand, v api.Val) string {
	if v.Kind == 1 && v.Text != "true" && v.Text != "null" && rnd.Intn(2) == 0 {
		return modelName(v.Text) // a Word may be a text
	}
	if v.Kind == 2 && v.Int > 0 && rnd.Intn(4) == 0 {
		return "00" + modelSaid(v)
	}
	return modelSaid(v)
}

func TestP8_1_NodesAreReadHoweverTheyAreSaid(t *testing.T) {
	rnd := rand.New(rand.NewSource(1))
	read := 0
	for range 20000 {
		ns := someNodes(rnd, 4)
		said := spoken(rnd, ns)
		parses(t, said)
		if len(said) > 4096 || len(inOrder(ns)) > 300 {
			continue
		}
		read++
		if got, fault := kdl.Parse(said); !same(got, ns) || fault != (api.Fault{}) {
			t.Fatalf("Parse(%q) = %v, %v, not %v", said, got, fault, ns)
		}
	}
	if read < 15000 {
		t.Errorf("only %d texts", read)
	}
}

func TestP8_1_RandomTexts(t *testing.T) {
	rnd := rand.New(rand.NewSource(2))
	pieces := []string{"a", "b", "x", "x=", "y=1", "x=1", "\"x\"", "1", "=", "{", "{", "}", "}", ";", "\n", " ", " ", "/**/", "true", "// a\n", "#", "\"", "1x", "\"\\x\""}
	for range 60000 {
		var b strings.Builder
		for range rnd.Intn(25) {
			b.WriteString(pieces[rnd.Intn(len(pieces)-rnd.Intn(2)*4)])
			b.WriteString(pick(rnd, "", " "))
		}
		parses(t, b.String())
	}
}

func TestP8_1_ChangedTexts(t *testing.T) {
	rnd := rand.New(rand.NewSource(3))
	for range 20000 {
		said := spoken(rnd, someNodes(rnd, 3))
		at := rnd.Intn(len(said) + 1)
		parses(t, said[:at])
		parses(t, said[:at]+pick(rnd, "{", "}", "=", ";", "\n", "\"", "a", "1", "x=1 x=1", " ")+said[at:])
	}
}

func TestP8_1_DeepAndLargeRandomTexts(t *testing.T) {
	rnd := rand.New(rand.NewSource(4))
	for range 1500 {
		var b strings.Builder
		for range 250 + rnd.Intn(500) {
			b.WriteString(pick(rnd, "a{", "a{", "a}", "}", ";", ";a;", "b;", "{"))
		}
		parses(t, b.String())
		parses(t, strings.Repeat("a{", rnd.Intn(14))+strings.Repeat("b;", rnd.Intn(310))+strings.Repeat("}", rnd.Intn(14)))
	}
}

// harm makes one thing of one of the nodes wrong, maybe.
func harm(rnd *rand.Rand, ns []api.Node) {
	if len(ns) == 0 {
		return
	}
	n := &ns[rnd.Intn(len(ns))]
	switch rnd.Intn(9) {
	case 0:
		n.Name = pick(rnd, "\x01", "a\r", "\x7f")
	case 1:
		n.Args = append(n.Args, pick(rnd, api.Val{}, api.Val{Kind: 5}, text("\x00"), api.Val{Kind: -1, Text: "a"}))
	case 2:
		n.Props = append(n.Props, prop(pick(rnd, "\x1f", "new", "x\x7f"), pick(rnd, null, text("\x0b"), api.Val{Kind: 9})))
	case 3:
		n.Props = append(n.Props, prop("x", null), prop("x", null))
	case 4:
		n.Name = strings.Repeat(pick(rnd, "a", " ", "\n"), 1000+rnd.Intn(3200))
	case 5:
		n.Kids = append(n.Kids, nest(named("deep"), 6+rnd.Intn(8))...)
	case 6:
		n.Kids = append(n.Kids, many(250+rnd.Intn(60))...)
	default:
		harm(rnd, n.Kids)
	}
}

func TestP8_1_RandomNodes(t *testing.T) {
	rnd := rand.New(rand.NewSource(5))
	for range 8000 {
		ns := someNodes(rnd, 4)
		writes(t, ns)
		for range 1 + rnd.Intn(3) {
			harm(rnd, ns)
			writes(t, ns)
		}
	}
}

// readsBack writes nodes, reads them, and writes them again.
func readsBack(t *testing.T, ns []api.Node) {
	t.Helper()
	said, code := kdl.Text(ns)
	if code != 0 {
		return
	}
	got, fault := kdl.Parse(said)
	if !same(got, ns) || fault != (api.Fault{}) {
		t.Fatalf("%.300v is written as %.300q, and read as %.300v, %v", ns, said, got, fault)
	}
	if again, code := kdl.Text(got); again != said || code != 0 {
		t.Fatalf("%.300q is read, and written as %.300q, %d", said, again, code)
	}
}

func TestP8_2_WrittenNodesAreReadBack(t *testing.T) {
	rnd := rand.New(rand.NewSource(6))
	for range 20000 {
		readsBack(t, someNodes(rnd, 4))
	}
	readsBack(t, many(300))
	readsBack(t, nest(many(20), 12))
}

func TestP8_2_WhatWasReadIsWrittenReadAndWrittenAsTheSame(t *testing.T) {
	rnd := rand.New(rand.NewSource(7))
	written := 0
	for range 20000 {
		ns, fault := kdl.Parse(spoken(rnd, someNodes(rnd, 4)))
		if fault != (api.Fault{}) {
			continue
		}
		if _, code := kdl.Text(ns); code == 0 {
			written++
		} else if code != api.ErrLong {
			t.Fatalf("%v can't be written: %d", ns, code)
		}
		readsBack(t, ns)
	}
	if written < 15000 {
		t.Errorf("only %d texts", written)
	}
}

func TestP8_3_TextsWithABreakBetween(t *testing.T) {
	rnd := rand.New(rand.NewSource(8))
	tried := 0
	for range 20000 {
		a, b := spoken(rnd, someNodes(rnd, 2)), spoken(rnd, someNodes(rnd, 2))
		one, first := kdl.Parse(a)
		two, second := kdl.Parse(b)
		if len(a)+len(b) >= 4096 || first != (api.Fault{}) || second != (api.Fault{}) || len(inOrder(join(one, two))) > 300 {
			continue
		}
		tried++
		for _, stop := range []string{";", "\n"} {
			got, fault := kdl.Parse(a + stop + b)
			if !same(got, join(one, two)) || fault != (api.Fault{}) {
				t.Fatalf("Parse(%q) = %v, %v, not %v", a+stop+b, got, fault, join(one, two))
			}
		}
	}
	if tried < 15000 {
		t.Errorf("only %d pairs", tried)
	}
}
