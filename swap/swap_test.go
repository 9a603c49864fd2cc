package swap_test

import (
	"math"
	"math/rand"
	"slices"
	"strings"
	"testing"

	"casement/api"
	"casement/layout"
	"casement/swap"
)

// sameRule tells whether rules are the same.
func sameRule(a, b swap.Rule) bool {
	return a.Min == b.Min && a.Max == b.Max && same(a.Plan, b.Plan)
}

// rule is one of so many panes.
func rule(from, to int, p api.Plan) swap.Rule { return swap.Rule{Min: from, Max: to, Plan: p} }

func TestP11_1_ReadTable(t *testing.T) {
	a, b := leaf("a"), leaf("b")
	for _, x := range []struct {
		text  string
		rules []swap.Rule
	}{
		{"", nil},
		{"other; pane a; cols { pane }; layouts { pane }; Layout { pane }", nil},
		{"layout { pane a }", []swap.Rule{rule(1, 24, a)}},
		{"\"layout\" { pane a }", []swap.Rule{rule(1, 24, a)}},
		{"layout min=2 { pane a }", []swap.Rule{rule(2, 24, a)}},
		{"layout max=2 { pane a }", []swap.Rule{rule(1, 2, a)}},
		{"layout max=3 min=2 { pane a }", []swap.Rule{rule(2, 3, a)}},
		// layouts in their order, among other nodes
		{"other { layout min=9 { pane } }; layout min=1 max=2 { pane a }; pane\nlayout min=3 { cols { pane a; pane b } }; stack", []swap.Rule{rule(1, 2, a), rule(3, 24, cols(a, b))}},
		{"layout min=5 { pane b }; layout { pane a }; layout min=5 { pane b }", []swap.Rule{rule(5, 24, b), rule(1, 24, a), rule(5, 24, b)}},
		// at least 1, at most 24 each
		{"layout min=0 max=0 { pane a }", []swap.Rule{rule(1, 1, a)}},
		{"layout min=-5 max=-1 { pane a }", []swap.Rule{rule(1, 1, a)}},
		{"layout min=1 max=24 { pane a }", []swap.Rule{rule(1, 24, a)}},
		{"layout min=24 max=1 { pane a }", []swap.Rule{rule(24, 1, a)}},
		{"layout min=25 max=25 { pane a }", []swap.Rule{rule(24, 24, a)}},
		{"layout min=999999 max=999999 { pane a }", []swap.Rule{rule(24, 24, a)}},
		// no ints
		{"layout min=\"2\" max=\"3\" { pane a }", []swap.Rule{rule(1, 24, a)}},
		{"layout min=two max=true { pane a }", []swap.Rule{rule(1, 24, a)}},
		{"layout min=null max=null { pane a }", []swap.Rule{rule(1, 24, a)}},
		// values, and properties of other names, and of kids
		{"layout min 2 3 Min=4 maxi=5 \"\"=7 { pane a min=2 max=3 }", []swap.Rule{rule(1, 24, a)}},
		{"layout \"min\"=4 \"max\"=5 { pane a }", []swap.Rule{rule(4, 5, a)}},
		// the plan is layer 10's
		{"layout min=2 { pane a; float w=1 h=1; pane b }", []swap.Rule{rule(2, 24, floats(rows(a, b), at(0, 0, 1, 1)))}},
		{"layout size=0 { pane a size=3 }", []swap.Rule{rule(1, 24, sized(fixed(3), a))}},
	} {
		got, code := swap.Read(nodesOf(t, x.text))
		if !slices.EqualFunc(got, x.rules, sameRule) || code != 0 {
			t.Errorf("Read(%q) = %v, %d, not %v", x.text, got, code, x.rules)
		}
	}
}

func TestP11_1_ReadOfNodesThatNoTextHas(t *testing.T) {
	pane := []api.Node{{Name: "pane"}}
	val := func(kind int, n int64) api.Val { return api.Val{Kind: kind, Int: n} }
	for _, x := range []struct {
		props    []api.Prop
		min, max int
	}{
		{nil, 1, 24},
		// of several the first one, also if it is no int
		{[]api.Prop{{Name: "min", Val: val(2, 3)}, {Name: "max", Val: val(2, 5)}, {Name: "min", Val: val(2, 4)}, {Name: "max", Val: val(2, 6)}}, 3, 5},
		{[]api.Prop{{Name: "min", Val: val(1, 3)}, {Name: "max", Val: val(4, 5)}, {Name: "min", Val: val(2, 4)}, {Name: "max", Val: val(2, 6)}}, 1, 24},
		// kinds that are none, and fields that a kind doesn't name
		{[]api.Prop{{Name: "min", Val: val(0, 3)}, {Name: "max", Val: val(5, 5)}}, 1, 24},
		{[]api.Prop{{Name: "min", Val: val(-2, 3)}, {Name: "max", Val: val(1<<32+2, 5)}}, 1, 24},
		{[]api.Prop{{Name: "min", Val: api.Val{Kind: 2, Text: "7", Bool: true, Int: 3}}}, 3, 24},
		// the greatest and the least numbers
		{[]api.Prop{{Name: "min", Val: val(2, math.MinInt64)}, {Name: "max", Val: val(2, math.MaxInt64)}}, 1, 24},
		{[]api.Prop{{Name: "min", Val: val(2, math.MaxInt64)}, {Name: "max", Val: val(2, math.MinInt64)}}, 24, 1},
		{[]api.Prop{{Name: "min", Val: val(2, 1<<32+2)}, {Name: "max", Val: val(2, -1<<32+2)}}, 24, 1},
	} {
		got, code := swap.Read([]api.Node{{Name: "layout", Props: x.props, Kids: pane}})
		if code != 0 || len(got) != 1 || !sameRule(got[0], rule(x.min, x.max, leaf(""))) {
			t.Errorf("Read with %v = %v, %d, not %d, %d", x.props, got, code, x.min, x.max)
		}
	}
}

func TestP11_1_ReadErrors(t *testing.T) {
	right, wrong, other := "layout { pane }\n", "layout\n", "other\n"
	for _, x := range []struct {
		what, text string
		rules      int
		code       api.Errno
	}{
		{"16 layouts", strings.Repeat(right, 16), 16, 0},
		{"16 layouts among others", strings.Repeat(other+right, 16) + other, 16, 0},
		{"17 layouts", strings.Repeat(right, 17), 0, 3},
		{"17 layouts among others", strings.Repeat(right+other, 17), 0, 3},
		{"40 layouts", strings.Repeat(right, 40), 0, 3},
		{"many others", strings.Repeat(other, 250), 0, 0},
		{"a layout without a plan", wrong, 0, 100},
		{"a layout of floating panes", "layout { float }", 0, 100},
		{"a layout of another plan", "layout { pane; box }", 0, 100},
		{"a layout in a layout", "layout { layout { pane } }", 0, 100},
		{"a wrong size", "layout { cols { pane size=0 } }", 0, 100},
		{"a wrong one first", wrong + right, 0, 100},
		{"a wrong one last", right + other + wrong, 0, 100},
		{"a wrong one that is the sixteenth", strings.Repeat(right, 15) + wrong, 0, 100},
		{"a wrong one of 17", strings.Repeat(right, 10) + wrong + strings.Repeat(right, 6), 0, 100},
		{"a wrong one that is the sixteenth of 17", strings.Repeat(right, 15) + wrong + right, 0, 100},
		{"a wrong one that is the seventeenth", strings.Repeat(right, 16) + wrong, 0, 3},
		{"a wrong one behind the seventeenth", strings.Repeat(right, 17) + wrong, 0, 3},
		{"wrong ones only", strings.Repeat(wrong, 30), 0, 100},
		{"a wrong one whose numbers fit nothing", "layout min=5 max=2", 0, 100},
	} {
		got, code := swap.Read(nodesOf(t, x.text))
		if len(got) != x.rules || code != x.code {
			t.Errorf("Read of %s = %v, %d, not %d rules, %d", x.what, got, code, x.rules, x.code)
		}
	}
}

func TestP11_1_ReadOfNodesThatCannotBeGoneThrough(t *testing.T) {
	pane := []api.Node{{Name: "pane"}}
	circle := []api.Node{{Name: "pane"}, {Name: "cols"}}
	circle[1].Kids = circle
	shared := api.Node{Name: "pane"}
	for range 40 {
		shared = api.Node{Name: "cols", Kids: slices.Repeat([]api.Node{shared}, 16)}
	}
	for what, n := range map[string]api.Node{
		"within itself": {Name: "layout", Kids: circle},
		"shared":        {Name: "layout", Kids: []api.Node{shared}},
	} {
		if got, code := swap.Read([]api.Node{{Name: "layout", Kids: pane}, n}); len(got) != 0 || code != 100 {
			t.Errorf("Read of a node that is %s = %v, %d", what, got, code)
		}
		n.Name = "other"
		if got, code := swap.Read([]api.Node{n, {Name: "layout", Kids: pane}}); len(got) != 1 || code != 0 {
			t.Errorf("Read of another node that is %s = %v, %d", what, got, code)
		}
	}
	many := slices.Repeat([]api.Node{{Name: "layout", Kids: pane}}, 1<<16)
	if got, code := swap.Read(many); len(got) != 0 || code != 3 {
		t.Errorf("Read of many layouts = %v, %d", got, code)
	}
}

func TestP11_1_ChooseTable(t *testing.T) {
	a, none := leaf("a"), api.Plan{}
	two := []swap.Rule{rule(1, 2, a), rule(3, 9, cols(a, a))}
	for _, x := range []struct {
		what  string
		rules []swap.Rule
		n     int
		want  int
	}{
		{"two rules", two, 3, 1},
		{"two rules", two, 1, 0}, {"two rules", two, 2, 0}, {"two rules", two, 9, 1}, {"two rules", two, 10, -1}, {"two rules", two, 0, -1}, {"two rules", two, -1, -1},
		{"two rules", two, math.MaxInt, -1}, {"two rules", two, math.MinInt, -1},
		{"no rule", nil, 1, -1},
		{"an empty list", []swap.Rule{}, 1, -1},
		// the first of several
		{"rules that overlap", []swap.Rule{rule(5, 9, a), rule(1, 6, a), rule(1, 24, a)}, 5, 0},
		{"rules that overlap", []swap.Rule{rule(5, 9, a), rule(1, 6, a), rule(1, 24, a)}, 4, 1},
		{"rules that overlap", []swap.Rule{rule(5, 9, a), rule(1, 6, a), rule(1, 24, a)}, 24, 2},
		{"the same rules", []swap.Rule{rule(2, 2, a), rule(2, 2, a)}, 2, 0},
		// the plan needn't have so many leaves
		{"a plan of more leaves", []swap.Rule{rule(1, 1, cols(a, a, a))}, 1, 0},
		// plans that aren't right
		{"a wrong plan", []swap.Rule{rule(1, 24, none)}, 1, -1},
		{"a wrong plan first", []swap.Rule{rule(1, 24, cols()), rule(1, 24, stack(cols(a))), rule(1, 24, a)}, 1, 2},
		{"a wrong plan that doesn't fit", []swap.Rule{rule(3, 4, none), rule(1, 2, a)}, 1, 1},
		{"a right plan that doesn't fit", []swap.Rule{rule(3, 4, a), rule(1, 2, none)}, 1, -1},
		// numbers that Read doesn't make
		{"Min above Max", []swap.Rule{rule(9, 3, a), rule(1, 24, a)}, 5, 1},
		{"Min above Max", []swap.Rule{rule(5, 4, a)}, 5, -1}, {"Min above Max", []swap.Rule{rule(5, 4, a)}, 4, -1},
		{"zero rules", []swap.Rule{{}, {Plan: a}}, 0, 1},
		{"zero rules", []swap.Rule{{}, {Plan: a}}, 1, -1},
		{"below 0", []swap.Rule{rule(-9, -3, a)}, -3, 0}, {"below 0", []swap.Rule{rule(-9, -3, a)}, -2, -1},
		{"all numbers", []swap.Rule{rule(math.MinInt, math.MaxInt, a)}, math.MinInt, 0},
		{"all numbers", []swap.Rule{rule(math.MinInt, math.MaxInt, a)}, math.MaxInt, 0},
		{"above 24", []swap.Rule{rule(1, 24, a), rule(25, 99, a)}, 25, 1},
		{"many rules", append(slices.Repeat([]swap.Rule{rule(1, 24, none)}, 1<<16), rule(1, 24, a)), 7, 1 << 16},
	} {
		if got := swap.Choose(x.rules, x.n); got != x.want {
			t.Errorf("Choose of %s for %d = %d, not %d", x.what, x.n, got, x.want)
		}
	}
	for what, p := range tangled() {
		if got := swap.Choose([]swap.Rule{rule(1, 24, p), rule(1, 24, a)}, 3); got != 1 {
			t.Errorf("Choose of a plan that is %s = %d", what, got)
		}
	}
}

func TestP11_1_RandomRulesAreChosen(t *testing.T) {
	rnd := rand.New(rand.NewSource(5))
	none := 0
	for range 2000 {
		var rules []swap.Rule
		for range rnd.Intn(6) {
			p := somePlan(rnd)
			if rnd.Intn(2) == 0 {
				harm(rnd, &p)
			}
			rules = append(rules, rule(rnd.Intn(20)-1, rnd.Intn(28)-1, p))
		}
		for n := -2; n < 28; n++ {
			want := -1
			for i, r := range slices.Backward(rules) {
				if r.Min <= n && r.Max >= n && layout.Check(r.Plan) == 0 {
					want = i
				}
			}
			if got := swap.Choose(rules, n); got != want {
				t.Fatalf("Choose(%v, %d) = %d, not %d", rules, n, got, want)
			}
			if want < 0 {
				none++
			}
		}
	}
	if none < 10000 || none > 50000 {
		t.Errorf("%d times none of 60000", none)
	}
}

func TestP11_1_NamesTable(t *testing.T) {
	a, b, c := leaf("a"), leaf("b"), leaf("c")
	for _, x := range []struct {
		what string
		p    api.Plan
		want []string
	}{
		{"a leaf", a, []string{"a"}},
		{"a leaf without a name", leaf(""), []string{""}},
		{"columns", cols(a, b), []string{"a", "b"}},
		{"a stack", stack(c, a, b), []string{"c", "a", "b"}},
		{"a tree", cols(rows(a, cols(b, c)), b, stack(a, leaf("")), rows(rows(c))), []string{"a", "b", "c", "b", "a", "", "c"}},
		{"floating panes", floats(rows(b, a), boxes(3)...), []string{"b", "a"}},
		{"names of splits, and kids of leaves", api.Plan{Kind: 2, Name: "x", Kids: []api.Plan{{Kind: 1, Name: "a", Kids: []api.Plan{b}}}}, []string{"a"}},
		{"names of any bytes", cols(leaf("\x00\xff"), leaf("a\nb")), []string{"\x00\xff", "a\nb"}},
		// plans that aren't right
		{"no plan", api.Plan{}, nil},
		{"no kind, but a name", api.Plan{Name: "a"}, nil},
		{"columns without kids", cols(), nil},
		{"a wrong plan within", cols(a, stack(rows(b))), nil},
		{"a wrong size", cols(a, sized(fixed(201), b)), nil},
		{"17 kids", cols(many(17)...), nil},
		{"too many panes", floats(a, boxes(24)...), nil},
		{"too deep", nest(a, 12), nil},
	} {
		if got := swap.Names(x.p); !slices.Equal(got, x.want) {
			t.Errorf("Names of %s = %q, not %q", x.what, got, x.want)
		}
	}
	for what, p := range tangled() {
		if got := swap.Names(p); len(got) != 0 {
			t.Errorf("Names of a plan that is %s = %q", what, got)
		}
	}
}

func TestP11_1_NamesOfRandomPlans(t *testing.T) {
	rnd := rand.New(rand.NewSource(6))
	for range 5000 {
		p := somePlan(rnd)
		if rnd.Intn(3) == 0 {
			harm(rnd, &p)
		}
		if got, want := swap.Names(p), modelNames(p); !slices.Equal(got, want) {
			t.Fatalf("Names(%v) = %q, not %q", p, got, want)
		}
	}
}

const document = "layout max=2 { pane a; float w=1 h=1; float w=2 h=2 }\nother\nlayout min=3 { cols { pane b; pane c; rows { pane d; pane e; pane f } } }\nlayout { stack { pane } }"

// spoilNodes writes over all lists of nodes.
func spoilNodes(ns []api.Node) {
	for _, n := range ns {
		spoilNodes(n.Kids)
		spoil(n.Args, api.Val{Kind: 1, Text: "spoilt"})
		spoil(n.Props, api.Prop{Name: "spoilt"})
	}
	spoil(ns, api.Node{Name: "spoilt"})
}

// sameNode tells whether nodes are the same.
func sameNode(a, b api.Node) bool {
	return a.Name == b.Name && slices.Equal(a.Args, b.Args) && slices.Equal(a.Props, b.Props) && slices.EqualFunc(a.Kids, b.Kids, sameNode)
}

func TestP11_3_ReadLeavesItsNodesAndKeepsNothing(t *testing.T) {
	ns := append(nodesOf(t, document), api.Node{Name: "behind"})
	ns = ns[:len(ns)-1]
	want, _ := swap.Read(nodesOf(t, document))
	got, code := swap.Read(ns)
	if code != 0 || len(got) != 3 || !slices.EqualFunc(got, want, sameRule) {
		t.Fatalf("Read = %v, %d", got, code)
	}
	if !slices.EqualFunc(ns, nodesOf(t, document), sameNode) || ns[:len(ns)+1][len(ns)].Name != "behind" {
		t.Errorf("Read leaves %v", ns)
	}
	spoilNodes(ns)
	if !slices.EqualFunc(got, want, sameRule) {
		t.Errorf("behind nodes that were written over: %v", got)
	}
}

func TestP11_3_ReadAnswersNewMemory(t *testing.T) {
	ns := nodesOf(t, document)
	// Layouts that share their kids have plans that share none.
	ns[2].Kids = ns[3].Kids
	ns = append(ns, ns[0])
	want, _ := swap.Read(ns)
	got, _ := swap.Read(ns)
	for i := range got {
		spoilPlan(got[i].Plan)
		if i+1 < len(got) && !slices.EqualFunc(got[i+1:], want[i+1:], sameRule) {
			t.Errorf("behind a plan that was written over: %v", got[i+1:])
		}
	}
	spoil(got, rule(9, 9, api.Plan{}))
	if again, code := swap.Read(ns); !slices.EqualFunc(again, want, sameRule) || code != 0 {
		t.Errorf("behind an answer that was written over: %v, %d", again, code)
	}
	// What is appended to one list is no other one's.
	got, _ = swap.Read(ns)
	for _, r := range got {
		each(r.Plan, func(kids []api.Plan) { spoil(kids[len(kids):], leaf("spoilt")) })
		spoil(r.Plan.Float[len(r.Plan.Float):], at(9, 9, 9, 9))
	}
	if !slices.EqualFunc(got, want, sameRule) {
		t.Errorf("behind lists to which was appended: %v", got)
	}
}

func TestP11_3_ChooseAndNamesLeaveWhatTheyAreGiven(t *testing.T) {
	rnd := rand.New(rand.NewSource(7))
	for range 2000 {
		p, q := somePlan(rnd), somePlan(rnd)
		if rnd.Intn(2) == 0 {
			harm(rnd, &p)
		}
		before := []swap.Rule{rule(1, 9, copied(p)), rule(3, 24, copied(q))}
		rules := []swap.Rule{rule(1, 9, p), rule(3, 24, q)}
		swap.Choose(rules, rnd.Intn(26))
		names := swap.Names(q)
		kept := slices.Clone(names)
		if !slices.EqualFunc(rules, before, sameRule) {
			t.Fatalf("Choose and Names leave %v, not %v", rules, before)
		}
		again := swap.Names(q)
		spoil(names, "spoilt")
		if !slices.Equal(again, kept) || !slices.Equal(swap.Names(q), kept) {
			t.Fatalf("behind names that were written over: %q, not %q", again, kept)
		}
	}
}
