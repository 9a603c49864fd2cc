package panes_test

import (
	"math"
	"slices"
	"testing"

	"casement/api"
	"casement/panes"
	"casement/swap"
)

// full is a space with tabs of so many panes each; the last one is shown.
func full(t *testing.T, rules []swap.Rule, counts ...int) *both {
	t.Helper()
	b := begin(t, at(0, 0, 12, 8), rules)
	for _, n := range counts {
		b.openTab()
		for range n - 1 {
			b.open()
		}
	}
	b.sees()
	return b
}

// has holds that a tab has these panes, and which of them has its focus.
func (b *both) has(tab, focus int, ids ...int) {
	b.t.Helper()
	if got, on := b.s.Panes(tab), b.s.Focused(tab); !slices.Equal(got, ids) || on != focus {
		b.t.Errorf("tab %d has %v, the focus on %d; not %v, %d", tab, got, on, ids, focus)
	}
}

// lies holds where the panes of the tab that is shown lie.
func (b *both) lies(what string, want ...panes.Place) {
	b.t.Helper()
	if got := b.s.Places(); !slices.Equal(got, want) {
		b.t.Errorf("%s: %v, not %v", what, got, want)
	}
}

func TestP19_1_Examples(t *testing.T) {
	s := panes.New(at(0, 0, 10, 6), nil)
	if id, code := s.OpenTab(); id != 1 || code != 0 {
		t.Errorf("OpenTab() = %d, %d", id, code)
	}
	for n := 2; n <= 3; n++ {
		if id, code := s.Open(); id != n || code != 0 {
			t.Errorf("Open() = %d, %d", id, code)
		}
	}
	if got := s.Panes(1); !slices.Equal(got, []int{1, 2, 3}) || s.Focused(1) != 3 {
		t.Errorf("Panes(1) = %v, the focus on %d", got, s.Focused(1))
	}
	if code := s.Close(3); code != 0 || s.Focused(1) != 2 {
		t.Errorf("Close(3) = %d, the focus on %d", code, s.Focused(1))
	}
	if code := s.Shift(1, 1); code != 0 || !slices.Equal(s.Panes(1), []int{2, 1}) {
		t.Errorf("Shift(1, 1) = %d: %v", code, s.Panes(1))
	}
	want := []panes.Place{{Id: 2, Rect: at(0, 0, 10, 3), Focus: true}, {Id: 1, Rect: at(0, 3, 10, 3)}}
	if got := s.Places(); !slices.Equal(got, want) {
		t.Errorf("Places() = %v", got)
	}
}

func TestP19_1_New(t *testing.T) {
	for _, rules := range [][]swap.Rule{nil, {}, some()} {
		b := begin(t, at(0, 0, 10, 6), rules)
		b.sees()
		b.looks()
		if code := b.s.Turn(1); code != 190 {
			t.Errorf("Turn(1) = %d", code)
		}
		if id, code := b.s.Open(); id != 0 || code != 190 {
			t.Errorf("Open() = %d, %d", id, code)
		}
		for _, n := range append(wrongs(), 1, 2) {
			if a, b, c := b.s.Close(n), b.s.Focus(n), b.s.Tile(n); a != 5 || b != 5 || c != 5 {
				t.Errorf("Close, Focus and Tile of %d = %d, %d, %d", n, a, b, c)
			}
			if a, b, c := b.s.Go(n), b.s.Shift(n, n), b.s.Float(n, at(1, 1, 1, 1)); a != 190 || b != 5 || c != 5 {
				t.Errorf("Go, Shift and Float of %d = %d, %d, %d", n, a, b, c)
			}
			if a, b, c := b.s.Tab(n), b.s.Focused(n), b.s.Panes(n); a != 0 || b != 0 || len(c) != 0 {
				t.Errorf("Tab, Focused and Panes of %d = %d, %d, %v", n, a, b, c)
			}
			if b.s.Turn(n) != 190 || b.s.At(n, 0) != 0 || b.s.At(0, n) != 0 {
				t.Errorf("Turn or At of %d without a tab", n)
			}
		}
		b.sees()
		// What was refused has no number.
		b.openTab()
		b.has(1, 1, 1)
	}
}

func TestP19_1_NoSuchOne(t *testing.T) {
	b := full(t, nil, 2, 1, 3)
	b.close(2)
	before := told(b.s, 9)
	for _, n := range append(wrongs(), 2, 7) {
		if a, b, c := b.s.Close(n), b.s.Focus(n), b.s.Tile(n); a != 5 || b != 5 || c != 5 {
			t.Errorf("Close, Focus and Tile of %d = %d, %d, %d", n, a, b, c)
		}
		if a, b := b.s.Shift(n, 1), b.s.Float(n, at(1, 1, 1, 1)); a != 5 || b != 5 {
			t.Errorf("Shift and Float of %d = %d, %d", n, a, b)
		}
		if b.s.Tab(n) != 0 {
			t.Errorf("Tab(%d) = %d", n, b.s.Tab(n))
		}
	}
	for _, n := range append(wrongs(), 4, 5) {
		if code := b.s.Go(n); code != 190 || len(b.s.Panes(n)) != 0 || b.s.Focused(n) != 0 {
			t.Errorf("Go, Panes and Focused of %d = %d, %v, %d", n, code, b.s.Panes(n), b.s.Focused(n))
		}
	}
	if got := told(b.s, 9); got != before {
		t.Errorf("what was refused makes %s of %s", got, before)
	}
}

func TestP19_1_AsManyTabsAsMayBe(t *testing.T) {
	b := full(t, nil, 1, 2, 1, 1)
	b.shows(2)
	before := told(b.s, 9)
	if id, code := b.s.OpenTab(); id != 0 || code != 3 {
		t.Errorf("a fifth tab = %d, %d", id, code)
	}
	if got := told(b.s, 9); got != before {
		t.Errorf("a fifth tab makes %s of %s", got, before)
	}
	b.open() // there is room for panes
	b.has(2, 6, 2, 3, 6)
	b.close(1)
	b.openTab()
	b.has(4, 7, 7)
	b.sees()
}

func TestP19_1_AsManyPanesAsMayBe(t *testing.T) {
	for _, counts := range [][]int{{24}, {20, 4}, {1, 22, 1}, {6, 6, 6, 6}} {
		b := full(t, some(), counts...)
		before := told(b.s, 25)
		if id, code := b.s.Open(); id != 0 || code != 3 {
			t.Errorf("%v: a 25th pane = %d, %d", counts, id, code)
		}
		if id, code := b.s.OpenTab(); id != 0 || code != 3 {
			t.Errorf("%v: a tab with a 25th pane = %d, %d", counts, id, code)
		}
		if got := told(b.s, 25); got != before {
			t.Errorf("%v: a 25th pane makes %s of %s", counts, got, before)
		}
		b.close(24)
		b.open()
		b.sees()
		if b.s.Tab(24) != 0 || b.s.Tab(25) != b.s.Shown() {
			t.Errorf("%v: the next pane isn't 25: %s", counts, told(b.s, 25))
		}
		b.close(25)
		b.openTab()
		b.sees()
	}
}

func TestP19_1_OpenedInTheTabThatIsShown(t *testing.T) {
	b := full(t, nil, 1, 1, 1)
	b.shows(2)
	b.open()
	b.has(1, 1, 1)
	b.has(2, 4, 2, 4)
	b.has(3, 3, 3)
	b.focus(2)
	b.open()
	b.has(2, 5, 2, 4, 5)
	b.openTab()
	b.has(4, 6, 6)
	if b.s.Shown() != 4 || b.s.Tabs() != 4 {
		t.Errorf("of %d tabs %d is shown", b.s.Tabs(), b.s.Shown())
	}
	b.sees()
}

func TestP19_1_WhereTheFocusGoes(t *testing.T) {
	for _, x := range []struct{ focus, goes, then int }{
		{1, 1, 2}, {2, 2, 1}, {3, 3, 2}, {4, 4, 3}, {1, 4, 1}, {4, 1, 4}, {2, 1, 2}, {2, 3, 2},
	} {
		b := full(t, nil, 4, 1)
		b.focus(x.focus)
		b.shows(2)
		b.close(x.goes)
		if got := b.s.Focused(1); got != x.then || b.s.Shown() != 2 {
			t.Errorf("where %d goes, the focus is on %d, not %d; tab %d is shown", x.goes, got, x.then, b.s.Shown())
		}
		b.sees()
	}
	b := full(t, nil, 3) // by the order that is then, floating ones among it
	b.shift(3, -2)
	b.float(3, at(0, 0, 2, 2))
	b.focus(1)
	b.close(1)
	b.has(1, 3, 3, 2)
	b.close(3)
	b.has(1, 2, 2)
}

func TestP19_1_WhichTabIsShownThen(t *testing.T) {
	for _, x := range []struct{ tabs, shown, goes, then int }{
		{1, 1, 1, 0},
		{2, 1, 1, 1}, {2, 2, 1, 1}, {2, 1, 2, 1}, {2, 2, 2, 1},
		{4, 1, 1, 1}, {4, 2, 1, 1}, {4, 4, 1, 3},
		{4, 1, 3, 1}, {4, 2, 3, 2}, {4, 3, 3, 2}, {4, 4, 3, 3},
		{4, 3, 4, 3}, {4, 4, 4, 3},
	} {
		b := full(t, nil, []int{1, 1, 1, 1}[:x.tabs]...)
		b.shows(x.shown)
		b.close(x.goes)
		if b.s.Tabs() != x.tabs-1 || b.s.Shown() != x.then {
			t.Errorf("%v: of %d tabs %d is shown, not %d", x, b.s.Tabs(), b.s.Shown(), x.then)
		}
		for id := 1; id <= x.tabs; id++ {
			want := id
			if id == x.goes {
				want = 0
			} else if id > x.goes {
				want--
			}
			if got := b.s.Tab(id); got != want {
				t.Errorf("%v: pane %d is in tab %d, not %d", x, id, got, want)
			}
		}
		b.sees()
	}
	b := full(t, nil, 1)
	b.close(1)
	b.open() // there is no tab any more
	b.turn(1)
	b.openTab()
	b.has(1, 2, 2)
	b.sees()
}

func TestP19_1_Focus(t *testing.T) {
	b := full(t, nil, 2, 2, 2)
	b.focus(1)
	if b.s.Shown() != 1 {
		t.Errorf("tab %d is shown", b.s.Shown())
	}
	b.focus(3)
	b.has(1, 1, 1, 2)
	b.has(2, 3, 3, 4)
	b.has(3, 6, 5, 6)
	if b.s.Shown() != 2 {
		t.Errorf("tab %d is shown", b.s.Shown())
	}
	b.shows(1) // has its own focus still
	b.has(1, 1, 1, 2)
	b.sees()
}

func TestP19_1_Turn(t *testing.T) {
	for _, x := range []struct{ n, from, d, to int }{
		{3, 1, 0, 1}, {3, 1, 1, 2}, {3, 3, 1, 1}, {3, 1, -1, 3}, {3, 2, -1, 1}, {3, 2, 2, 1}, {3, 2, -2, 3},
		{3, 2, 3, 2}, {3, 2, -3, 2}, {3, 2, 300, 2}, {3, 2, 301, 3}, {3, 2, -301, 1},
		{1, 1, 1, 1}, {1, 1, -1, 1}, {1, 1, math.MaxInt, 1}, {1, 1, math.MinInt, 1},
		{2, 1, math.MaxInt, 2}, {2, 2, math.MaxInt, 1}, {2, 1, math.MinInt, 1}, {2, 2, math.MinInt + 1, 1},
		// the greatest int is 7 on of 10, the least one 8 back
		{10, 10, math.MaxInt, 7}, {10, 1, math.MaxInt, 8}, {10, 1, math.MinInt, 3}, {10, 9, math.MinInt, 1},
		{24, 24, 1, 1}, {24, 1, -1, 24}, {24, 24, 23, 23}, {24, 1, -23, 2},
	} {
		b := full(t, nil, x.n)
		b.focus(x.from)
		b.turn(x.d)
		if got := b.s.Focused(1); got != x.to {
			t.Errorf("of %d panes %d on from %d is %d, not %d", x.n, x.d, x.from, got, x.to)
		}
		b.sees()
	}
	b := full(t, nil, 2, 3)
	b.shift(5, -1) // 3, 5, 4
	b.float(4, at(1, 1, 1, 1))
	b.turn(1) // from 5 to a floating one
	b.has(2, 4, 3, 5, 4)
	b.turn(1)
	b.has(2, 3, 3, 5, 4)
	b.has(1, 2, 1, 2)
	b.sees()
}

func TestP19_1_Shift(t *testing.T) {
	for _, x := range []struct {
		id, d int
		want  []int
	}{
		{2, 0, []int{1, 2, 3, 4}}, {2, 1, []int{1, 3, 2, 4}}, {2, 2, []int{1, 3, 4, 2}}, {2, 3, []int{1, 3, 4, 2}},
		{2, -1, []int{2, 1, 3, 4}}, {2, -2, []int{2, 1, 3, 4}}, {1, -1, []int{1, 2, 3, 4}}, {4, 1, []int{1, 2, 3, 4}},
		{1, 3, []int{2, 3, 4, 1}}, {4, -3, []int{4, 1, 2, 3}}, {3, -2, []int{3, 1, 2, 4}},
		{1, math.MaxInt, []int{2, 3, 4, 1}}, {2, math.MaxInt, []int{1, 3, 4, 2}}, {4, math.MaxInt, []int{1, 2, 3, 4}},
		{1, math.MinInt, []int{1, 2, 3, 4}}, {3, math.MinInt, []int{3, 1, 2, 4}}, {4, math.MinInt, []int{4, 1, 2, 3}},
	} {
		b := full(t, nil, 4, 2)
		b.focus(3)
		b.shows(2)
		b.shift(x.id, x.d)
		b.has(1, 3, x.want...)
		b.has(2, 6, 5, 6)
		if b.s.Shown() != 2 {
			t.Errorf("Shift(%d, %d) shows tab %d", x.id, x.d, b.s.Shown())
		}
		b.sees()
	}
}

func TestP19_1_FloatAndTile(t *testing.T) {
	b := full(t, nil, 4)
	first := panes.Place{Id: 1, Rect: at(0, 0, 12, 8)}
	b.float(2, at(1, 2, 3, 4))
	b.float(4, at(100, 0, 5, 99))
	b.float(3, at(-3, -3, 4, 4))
	b.lies("three float", first,
		panes.Place{Id: 2, Rect: at(1, 2, 3, 4), Z: 1},
		panes.Place{Id: 3, Rect: at(0, 0, 4, 4), Z: 2},
		panes.Place{Id: 4, Rect: at(7, 0, 5, 8), Z: 3, Focus: true})
	b.has(1, 4, 1, 2, 3, 4)
	b.looks()
	b.float(3, at(5, 5, 2, 2)) // it floats elsewhere, and stays where it is in the order
	b.tile(2)
	b.shift(4, -3)
	b.lies("two float",
		panes.Place{Id: 1, Rect: at(0, 0, 12, 4)},
		panes.Place{Id: 2, Rect: at(0, 4, 12, 4)},
		panes.Place{Id: 4, Rect: at(7, 0, 5, 8), Z: 1, Focus: true},
		panes.Place{Id: 3, Rect: at(5, 5, 2, 2), Z: 2})
	b.looks()
	b.tile(2) // it is already
	for _, id := range []int{3, 4} {
		b.tile(id)
	}
	b.lies("none floats",
		panes.Place{Id: 4, Rect: at(0, 0, 12, 2), Focus: true},
		panes.Place{Id: 1, Rect: at(0, 2, 12, 2)},
		panes.Place{Id: 2, Rect: at(0, 4, 12, 2)},
		panes.Place{Id: 3, Rect: at(0, 6, 12, 2)})
	b.sees()
}

func TestP19_1_AllFloat(t *testing.T) {
	b := full(t, some(), 24)
	for id := 1; id <= 24; id++ {
		b.float(id, at(id%5, id%3, 3, 3))
		b.sees()
	}
	b.looks()
	if list := b.s.Places(); len(list) != 24 || list[23] != (panes.Place{Id: 24, Rect: at(4, 0, 3, 3), Z: 24, Focus: true}) {
		t.Errorf("Places() = %v", list)
	}
}

func TestP19_1_WhereFloatingPanesLie(t *testing.T) {
	for _, x := range []struct {
		what          string
		area, r, want api.Rect
	}{
		{"within", at(0, 0, 12, 8), at(1, 1, 3, 3), at(1, 1, 3, 3)},
		{"moved as the area", at(5, 7, 12, 8), at(1, 1, 3, 3), at(6, 8, 3, 3)},
		{"moved as the area, back", at(-5, -7, 12, 8), at(1, 1, 3, 3), at(-4, -6, 3, 3)},
		{"beyond its end", at(5, 7, 12, 8), at(11, 7, 3, 3), at(14, 12, 3, 3)},
		{"ahead of it", at(5, 7, 12, 8), at(-2, -1, 3, 3), at(5, 7, 3, 3)},
		{"larger than it", at(5, 7, 12, 8), at(4, 4, 20, 20), at(5, 7, 12, 8)},
		{"empty", at(5, 7, 12, 8), at(4, 4, 0, 20), empty},
		{"sides below 0", at(5, 7, 12, 8), at(4, 4, 9, math.MinInt), empty},
		{"numbers that aren't clean", at(5, 7, 12, 8), at(math.MinInt, -9999, math.MaxInt, 201), at(5, 7, 12, 8)},
		// what is left of it at MaxPos is moved into the area
		{"as far as may be", at(-100, -100, 12, 8), at(4998, 4999, 9, 9), at(-90, -93, 2, 1)},
		{"farther than may be", at(0, 0, 12, 8), at(5001, 6000, 3, 3), empty},
		{"an area without cells", at(5, 7, 12, 0), at(1, 1, 3, 3), empty},
	} {
		s := panes.New(x.area, nil)
		s.OpenTab()
		if code := s.Float(1, x.r); code != 0 {
			t.Errorf("%s: Float = %d", x.what, code)
		}
		if got := s.Places(); len(got) != 1 || got[0] != (panes.Place{Id: 1, Rect: x.want, Z: 1, Focus: true}) {
			t.Errorf("%s: %v, not %v", x.what, got, x.want)
		}
	}
}

func TestP19_1_WhereTiledPanesLie(t *testing.T) {
	title := func(id, y int) panes.Place { return panes.Place{Id: id, Rect: at(0, y, 12, 1), Title: true} }
	b := full(t, some(), 1)
	b.lies("no rule", panes.Place{Id: 1, Rect: at(0, 0, 12, 8), Focus: true})
	b.open()
	b.lies("columns, without their floating panes", panes.Place{Id: 1, Rect: at(0, 0, 3, 8)}, panes.Place{Id: 2, Rect: at(3, 0, 9, 8), Focus: true})
	b.open()
	b.lies("a stack", title(1, 0), title(2, 1), panes.Place{Id: 3, Rect: at(0, 2, 12, 6), Focus: true})
	b.open()
	b.focus(2)
	focused := title(2, 1)
	focused.Focus = true
	b.lies("a stack of one more", title(1, 0), focused, title(3, 2), panes.Place{Id: 4, Rect: at(0, 3, 12, 5)})
	b.float(1, at(0, 0, 1, 1)) // there are three tiled ones now
	focused.Rect.Y = 0
	b.lies("a stack, and one that floats", focused, title(3, 1), panes.Place{Id: 4, Rect: at(0, 2, 12, 6)}, panes.Place{Id: 1, Rect: at(0, 0, 1, 1), Z: 1})
	b.tile(1)
	b.open()
	b.open()
	b.lies("the first rule of two",
		panes.Place{Id: 1, Rect: at(0, 0, 6, 8)},
		panes.Place{Id: 2, Rect: at(6, 0, 6, 2)}, panes.Place{Id: 3, Rect: at(6, 2, 6, 2)},
		panes.Place{Id: 4, Rect: at(6, 4, 6, 2)},
		panes.Place{Id: 5, Rect: at(6, 6, 6, 1)}, panes.Place{Id: 6, Rect: at(6, 7, 6, 1), Focus: true})
	b.looks()
}

func TestP19_1_RulesThatDoNotFit(t *testing.T) {
	for what, r := range map[string]swap.Rule{
		"for fewer":              rule(1, 1, cols(leaf(""))),
		"for more":               rule(3, 24, cols(leaf(""))),
		"for none":               rule(3, 1, cols(leaf(""))),
		"not right":              rule(1, 24, cols(leaf(""), stack())),
		"too many panes with it": rule(1, 24, floats(cols(leaf("")), 24)),
	} {
		b := full(t, []swap.Rule{r}, 2)
		b.lies(what, panes.Place{Id: 1, Rect: at(0, 0, 12, 4)}, panes.Place{Id: 2, Rect: at(0, 4, 12, 4), Focus: true})
		b.sees()
	}
}

func TestP19_1_PlansThatGetTooDeep(t *testing.T) {
	// It is as deep as may be, and has as many kids: a leaf more needs Rows around it.
	deep := cols(append([]api.Plan{nest(leaf(""), 10)}, many(15)...)...)
	if _, code := swap.Fit(deep, 17); code != 4 {
		t.Fatalf("Fit = %d", code)
	}
	b := full(t, []swap.Rule{rule(1, 24, deep)}, 16)
	b.resize(at(0, 0, 32, 34))
	if list := b.s.Places(); list[15].Rect != at(30, 0, 2, 34) {
		t.Errorf("sixteen: %v", list)
	}
	b.open() // a leaf's plan: Rows of sixteen, and one below these
	if list := b.s.Places(); list[0].Rect != at(0, 0, 32, 2) || list[15].Rect != at(0, 16, 32, 1) || list[16].Rect != at(0, 17, 32, 17) {
		t.Errorf("seventeen: %v", list)
	}
	b.sees()
	b.close(17)
	b.sees()
}

func TestP19_1_AsManyPanesAsAPlanGets(t *testing.T) {
	for _, p := range []api.Plan{leaf(""), rows(many(16)...), nest(cols(many(16)...), 10), cols(append(many(15), stack(leaf("")))...)} {
		b := begin(t, at(0, 0, 24, 40), []swap.Rule{rule(1, 24, p)})
		b.openTab()
		for range 24 {
			b.sees()
			b.open()
		}
		b.looks()
	}
}

func TestP19_1_FloatingPanesOfAPlanTakeNoRoom(t *testing.T) {
	// The plan goes without its floating panes ahead of Fit, where they would be too many with five tiled ones.
	p := floats(cols(many(2)...), 20)
	if _, code := swap.Fit(p, 5); code != 1 {
		t.Fatalf("Fit = %d", code)
	}
	b := full(t, []swap.Rule{rule(1, 24, p)}, 5)
	if list := b.s.Places(); len(list) != 5 || list[4].Rect != at(10, 0, 2, 8) {
		t.Errorf("Places() = %v", list)
	}
	b.sees()
}

func TestP19_1_Areas(t *testing.T) {
	for _, x := range []struct{ area, want api.Rect }{
		{at(3, 4, 12, 8), at(3, 4, 12, 8)},
		{at(-3, -4, 200, 200), at(-3, -4, 200, 200)},
		{at(0, 0, 201, 999), at(0, 0, 200, 200)},
		{at(4990, -9999, 100, 10), at(4990, -5000, 10, 10)},
		{at(5000, 0, 1, 1), empty},
		{at(7, 7, 0, 5), empty},
		{at(7, 7, 5, -5), empty},
		{at(math.MinInt, math.MaxInt, math.MaxInt, math.MinInt), empty},
		{at(math.MinInt, math.MinInt, math.MaxInt, math.MaxInt), at(-5000, -5000, 200, 200)},
	} {
		s, other := panes.New(x.area, nil), panes.New(at(9, 9, 9, 9), nil)
		other.OpenTab()
		other.Resize(x.area)
		s.OpenTab()
		for _, s := range []*panes.Space{s, other} {
			if got := s.Places(); len(got) != 1 || got[0].Rect != x.want {
				t.Errorf("the area %v is %v, not %v", x.area, got, x.want)
			}
		}
	}
}

func TestP19_1_ResizeTouchesPlacesAlone(t *testing.T) {
	b := full(t, some(), 3, 5)
	b.float(5, at(3, 2, 6, 6))
	for _, area := range []api.Rect{at(2, 2, 40, 20), at(0, 0, 3, 2), empty, at(0, 0, 12, 8)} {
		b.resize(area)
		b.sees()
		b.looks()
		b.shows(1)
		b.sees()
		b.looks()
		b.shows(2)
	}
}

func TestP19_1_At(t *testing.T) {
	b := full(t, nil, 5)
	b.float(2, at(2, 1, 4, 4))
	b.float(4, at(3, 2, 4, 4))
	b.float(3, at(1, 1, 2, 2))
	for _, x := range [][3]int{
		{0, 0, 1}, {11, 3, 1}, {0, 4, 5}, {11, 7, 5}, {2, 1, 3}, {1, 2, 3}, {3, 1, 2}, {3, 2, 4}, {6, 5, 4}, {2, 4, 2}, {6, 6, 5},
		{-1, 0, 0}, {0, -1, 0}, {12, 0, 0}, {0, 8, 0}, {math.MinInt, 0, 0}, {0, math.MaxInt, 0}, {math.MaxInt, math.MaxInt, 0},
	} {
		if got := b.s.At(x[0], x[1]); got != x[2] {
			t.Errorf("At(%d, %d) = %d, not %d", x[0], x[1], got, x[2])
		}
	}
	b.shift(4, -3) // hidden now where pane 2 is, too
	if got := b.s.At(3, 2); got != 2 {
		t.Errorf("At(3, 2) = %d, not 2", got)
	}
	b.looks()
	stacked := full(t, []swap.Rule{rule(1, 24, stack(leaf("")))}, 3)
	if a, b := stacked.s.At(0, 1), stacked.s.At(0, 2); a != 2 || b != 3 {
		t.Errorf("a title's cell is %d's, the open one's %d's", a, b)
	}
}
