package panes_test

import (
	"fmt"
	"math"
	"math/rand"
	"runtime"
	"slices"
	"strings"
	"testing"
	"unsafe"
	"weak"

	"casement/api"
	"casement/panes"
	"casement/swap"
)

// calls are few that touch one another much.
func calls() []func(b *both) {
	return []func(b *both){
		func(b *both) { b.openTab() },
		func(b *both) { b.open() },
		func(b *both) { b.close(1) },
		func(b *both) { b.close(2) },
		func(b *both) { b.close(b.m.last) },
		func(b *both) { b.focus(1) },
		func(b *both) { b.focus(2) },
		func(b *both) { b.shows(1) },
		func(b *both) { b.shows(2) },
		func(b *both) { b.turn(1) },
		func(b *both) { b.turn(-1) },
		func(b *both) { b.shift(1, 1) },
		func(b *both) { b.shift(b.m.last, -1) },
		func(b *both) { b.float(2, at(1, 1, 3, 2)) },
		func(b *both) { b.float(b.m.last, at(2, 1, 3, 2)) },
		func(b *both) { b.tile(2) },
		func(b *both) { b.resize(at(3, 2, 7, 5)) },
	}
}

// everyOrder does so many of the calls, in every order, each on a space that is begun so.
func everyOrder(t *testing.T, n int, begun func(b *both)) {
	list := calls()
	orders := 1
	for range n {
		orders *= len(list)
	}
	for order := range orders {
		b := begin(t, at(1, 0, 9, 6), some())
		begun(b)
		for range n {
			list[order%len(list)](b)
			order /= len(list)
		}
		b.sees()
	}
}

func TestP19_1_EveryOrderOfFewCalls(t *testing.T) {
	everyOrder(t, 4, func(b *both) {})
	everyOrder(t, 3, func(b *both) {
		for range 3 {
			b.openTab()
			b.open()
		}
		b.shows(2)
	})
	everyOrder(t, 3, func(b *both) {
		b.openTab()
		b.openTab()
		b.open()
		b.open()
		b.float(3, at(0, 0, 2, 2))
		b.focus(3)
	})
}

// somewhere is a rectangle, mostly one that is close to 0.
func somewhere(rnd *rand.Rand) api.Rect {
	one := func() int {
		return pick(rnd, rnd.Intn(12)-2, rnd.Intn(12)-2, rnd.Intn(30), rnd.Intn(300)-50, rnd.Intn(12000)-6000, pick(rnd, wrongs()...))
	}
	return at(one(), one(), one(), one())
}

// someId is mostly a pane's number.
func (b *both) someId(rnd *rand.Rand) int {
	if rnd.Intn(8) == 0 {
		return pick(rnd, append(wrongs(), b.m.last+1)...)
	}
	return 1 + b.m.last - rnd.Intn(min(b.m.last, 30)+1)
}

func someStep(rnd *rand.Rand) int {
	return pick(rnd, 1, -1, 2, -2, 0, rnd.Intn(60)-30, pick(rnd, wrongs()...))
}

// anything does one call of any kind, at any arguments.
func (b *both) anything(rnd *rand.Rand, grow int) {
	b.t.Helper()
	switch rnd.Intn(11 + grow) {
	case 0:
		b.openTab()
	case 1, 2, 3:
		b.close(b.someId(rnd))
	case 4:
		b.focus(b.someId(rnd))
	case 5:
		b.shows(pick(rnd, append(wrongs(), 1, 2, 3, 4, 5, 1, 2, 3, 4)...))
	case 6:
		b.turn(someStep(rnd))
	case 7:
		b.shift(b.someId(rnd), someStep(rnd))
	case 8:
		b.float(b.someId(rnd), somewhere(rnd))
	case 9:
		b.tile(b.someId(rnd))
	case 10:
		b.resize(pick(rnd, at(rnd.Intn(5), rnd.Intn(5), rnd.Intn(30), rnd.Intn(30)), at(0, 0, 80, 24), somewhere(rnd)))
	default:
		b.open()
	}
}

// someRules are for few or many panes, right or not.
func someRules(rnd *rand.Rand) (list []swap.Rule) {
	for range rnd.Intn(6) {
		least := rnd.Intn(12)
		p := pick(rnd, append(some(), rule(0, 0, cols(many(1+rnd.Intn(17))...)), rule(0, 0, stack(many(1+rnd.Intn(5))...)))...).Plan
		if rnd.Intn(4) == 0 {
			p = floats(p, rnd.Intn(26))
		}
		list = append(list, rule(least, least+rnd.Intn(12), p))
	}
	return list
}

func TestP19_1_ManyCalls(t *testing.T) {
	tabs, most := 0, 0
	for seed := range int64(60) {
		rnd := rand.New(rand.NewSource(seed))
		b := begin(t, at(0, 0, 20, 10), someRules(rnd))
		for n := range 800 {
			b.anything(rnd, []int{2, 5, 14}[(seed+int64(n/200))%3])
			b.sees()
			if n%40 == 0 && b.m.area.W*b.m.area.H < 1000 {
				b.looks()
			}
			tabs, most = max(tabs, b.m.Tabs()), max(most, len(slices.Concat(b.m.tabs...)))
		}
	}
	if tabs != mostTabs || most != mostPanes {
		t.Errorf("no more than %d tabs and %d panes", tabs, most)
	}
}

func TestP19_1_ErrorsChangeNothing(t *testing.T) {
	refused := 0
	for seed := range int64(40) {
		rnd := rand.New(rand.NewSource(seed))
		s, same := panes.New(at(1, 1, 20, 10), some()), panes.New(at(1, 1, 20, 10), some())
		for n := range 300 {
			id, d, r := 1+rnd.Intn(n+2), someStep(rnd), somewhere(rnd)
			calls := []func(s *panes.Space) api.Errno{
				func(s *panes.Space) api.Errno { _, code := s.OpenTab(); return code },
				func(s *panes.Space) api.Errno { _, code := s.Open(); return code },
				func(s *panes.Space) api.Errno { return s.Close(id) },
				func(s *panes.Space) api.Errno { return s.Focus(id) },
				func(s *panes.Space) api.Errno { return s.Go(d) },
				func(s *panes.Space) api.Errno { return s.Turn(d) },
				func(s *panes.Space) api.Errno { return s.Shift(id, d) },
				func(s *panes.Space) api.Errno { return s.Float(id, r) },
				func(s *panes.Space) api.Errno { return s.Tile(id) },
			}
			call := calls[min(rnd.Intn(20), rnd.Intn(20))%len(calls)]
			before := told(s, n+2)
			if code := call(s); code == 0 {
				call(same) // so that this one has only those calls that answer no error
			} else if got := told(s, n+2); got != before {
				t.Fatalf("seed %d: error %d makes\n%s of\n%s", seed, code, got, before)
			} else {
				refused++
			}
			if a, b := told(s, n+2), told(same, n+2); a != b {
				t.Fatalf("seed %d: with errors\n%s, without them\n%s", seed, a, b)
			}
		}
	}
	if refused < 1000 {
		t.Errorf("only %d calls were refused", refused)
	}
}

func TestP19_2_EachPaneOnceNumbersNeverAgain(t *testing.T) {
	for seed := range int64(40) {
		rnd := rand.New(rand.NewSource(seed))
		b := begin(t, at(0, 0, 20, 10), nil)
		newest := 0
		for range 600 {
			before := b.m.last
			b.anything(rnd, 9)
			seen := map[int]int{}
			for tab := 1; tab <= b.s.Tabs(); tab++ {
				list := b.s.Panes(tab)
				if len(list) == 0 || !slices.Contains(list, b.s.Focused(tab)) {
					t.Fatalf("seed %d: tab %d has %v, the focus on %d", seed, tab, list, b.s.Focused(tab))
				}
				for _, id := range list {
					if seen[id] != 0 || b.s.Tab(id) != tab || id < 1 {
						t.Fatalf("seed %d: pane %d is in the tabs %d and %d; its tab is %d", seed, id, seen[id], tab, b.s.Tab(id))
					}
					seen[id] = tab
					newest = max(newest, id)
				}
			}
			if newest != b.m.last || len(seen) > mostPanes || b.s.Tabs() > mostTabs || (b.s.Shown() == 0) != (b.s.Tabs() == 0) || b.s.Shown() < 0 || b.s.Shown() > b.s.Tabs() {
				t.Fatalf("seed %d: %d panes, the newest one %d, of %d tabs %d is shown", seed, len(seen), newest, b.s.Tabs(), b.s.Shown())
			}
			for id := 1; id <= before; id++ {
				if seen[id] == 0 && b.s.Tab(id) != 0 {
					t.Fatalf("seed %d: pane %d has gone, its tab is %d", seed, id, b.s.Tab(id))
				}
			}
		}
	}
}

// alone is what a space tells of one tab when it is shown.
func alone(s *panes.Space, tab int) string {
	s.Go(tab)
	return fmt.Sprint(s.Panes(tab), s.Focused(tab), s.Places(), s.At(2, 2), s.At(4, 4))
}

func TestP19_3_OtherTabsStay(t *testing.T) {
	for seed := range int64(300) {
		rnd := rand.New(rand.NewSource(seed))
		b := begin(t, at(0, 0, 20, 10), someRules(rnd))
		for range 3 {
			b.openTab()
			for range 1 + rnd.Intn(4) {
				b.open()
				if rnd.Intn(3) == 0 {
					b.float(b.m.last, at(rnd.Intn(9), rnd.Intn(9), 3, 3))
				}
			}
		}
		mine := 1 + rnd.Intn(3)
		others := slices.DeleteFunc([]int{1, 2, 3}, func(tab int) bool { return tab == mine })
		before := alone(b.s, others[0]) + alone(b.s, others[1])
		b.s.Go(mine)
		for range 10 {
			list := b.s.Panes(mine)
			id := pick(rnd, list...)
			switch rnd.Intn(7) {
			case 0:
				b.s.Open()
			case 1:
				if len(list) > 1 {
					b.s.Close(id)
				}
			case 2:
				b.s.Focus(id)
			case 3:
				b.s.Turn(someStep(rnd))
			case 4:
				b.s.Shift(id, someStep(rnd))
			case 5:
				b.s.Float(id, somewhere(rnd))
			case 6:
				b.s.Tile(id)
			}
		}
		if got := b.s.Shown(); got != mine {
			t.Fatalf("seed %d: tab %d is shown, not %d", seed, got, mine)
		}
		if got := alone(b.s, others[0]) + alone(b.s, others[1]); got != before {
			t.Fatalf("seed %d: what tab %d does makes others\n%s of\n%s", seed, mine, got, before)
		}
		for _, id := range b.s.Panes(mine) {
			b.s.Close(id)
		}
		if got := alone(b.s, 1) + alone(b.s, 2); b.s.Tabs() != 2 || got != before {
			t.Fatalf("seed %d: that tab %d goes makes others\n%s of\n%s", seed, mine, got, before)
		}
	}
}

func TestP19_4_RulesStayAndAreNotKept(t *testing.T) {
	for seed := range int64(200) {
		rnd := rand.New(rand.NewSource(seed))
		name := []byte("a name")
		rules := append(copiedRules(someRules(rnd)), rule(1, mostPanes, copied(cols(leaf("x"), rows(leaf("y"), leaf("z"))))))
		rules[len(rules)-1].Plan.Kids[0].Name = unsafe.String(&name[0], len(name))
		wide := slices.Grow(slices.Clone(rules), 3)
		spare := rule(1, 1, leaf("spare"))
		spoil(wide[len(wide):cap(wide)], spare)
		before := fmt.Sprint(rules)
		b := begin(t, at(0, 0, 20, 10), wide)
		if got := fmt.Sprint(wide); got != before {
			t.Fatalf("seed %d: New makes %s of %s", seed, got, before)
		}
		if got := fmt.Sprint(wide[len(wide):cap(wide)]); strings.Contains(got, "{0 0 ") {
			t.Fatalf("seed %d: New writes behind the rules: %s", seed, got)
		}
		for _, r := range wide {
			spoilPlan(r.Plan)
		}
		spoil(wide, rule(1, mostPanes, stack(many(9)...)))
		copy(name, "spoilt")
		b.openTab()
		for range 14 {
			b.open()
			b.sees()
		}
	}
}

// named is a space whose rules have a plan with a long name, and that name's memory.
func named() (*panes.Space, weak.Pointer[byte]) {
	name := slices.Repeat([]byte("name"), 1<<16)
	return panes.New(at(0, 0, 20, 10), []swap.Rule{rule(1, mostPanes, cols(leaf(unsafe.String(&name[0], len(name)))))}), weak.Make(&name[0])
}

func TestP19_4_NamesAreNotKept(t *testing.T) {
	s, name := named()
	runtime.GC()
	if name.Value() != nil {
		t.Error("the space keeps a plan's name")
	}
	s.OpenTab()
	if list := s.Places(); len(list) != 1 || list[0].Rect != at(0, 0, 20, 10) {
		t.Errorf("Places() = %v", list)
	}
}

func TestP19_4_AnswersAreNewMemory(t *testing.T) {
	for seed := range int64(100) {
		rnd := rand.New(rand.NewSource(seed))
		b := begin(t, at(0, 0, 20, 10), some())
		for range 60 {
			b.anything(rnd, 9)
			for tab := 1; tab <= b.s.Tabs(); tab++ {
				spoil(b.s.Panes(tab), 77)
			}
			spoil(b.s.Places(), panes.Place{Id: 78, Rect: at(1, 2, 3, 4), Z: 5, Title: true})
			b.sees()
			places, list := b.s.Places(), b.s.Panes(1)
			kept, also := slices.Clone(places), slices.Clone(list)
			b.anything(rnd, 9)
			b.s.Places()
			b.s.Panes(1)
			if !slices.Equal(places, kept) || !slices.Equal(list, also) {
				t.Fatalf("seed %d: what was answered has become %v and %v, not %v and %v", seed, places, list, kept, also)
			}
		}
	}
}

func TestP19_4_SpacesAreApart(t *testing.T) {
	rnd := rand.New(rand.NewSource(44))
	rules := some()
	x, y := begin(t, at(0, 0, 20, 10), rules), begin(t, at(2, 2, 9, 9), rules)
	for range 2000 {
		x.anything(rnd, 5)
		y.anything(rnd, 9)
		x.sees()
		y.sees()
	}
}

func TestP19_1_RulesThatCannotBeGoneThrough(t *testing.T) {
	circle := many(2)
	circle[1] = cols(circle...)
	shared := leaf("")
	for range 40 {
		shared = cols(slices.Repeat([]api.Plan{shared}, 16)...)
	}
	within := leaf("a")
	within.Kids = circle
	for what, p := range map[string]api.Plan{
		"within itself": circle[1],
		"shared":        shared,
		"very deep":     nest(leaf(""), 60000),
		"very wide":     rows(many(1 << 14)...),
	} {
		s := panes.New(at(0, 0, 10, 6), append(slices.Repeat([]swap.Rule{rule(1, mostPanes, p)}, 50), rule(1, mostPanes, cols(within))))
		s.OpenTab()
		s.Open()
		if list := s.Places(); len(list) != 2 || list[0].Rect != at(0, 0, 5, 6) || list[1].Rect != at(5, 0, 5, 6) {
			t.Errorf("behind plans that are %s: %v", what, list)
		}
	}
	long := append(slices.Repeat([]swap.Rule{rule(math.MaxInt, math.MinInt, leaf(""))}, 1<<20), rule(math.MinInt, math.MaxInt, cols(leaf(""))))
	s := panes.New(at(0, 0, 10, 6), long)
	s.OpenTab()
	s.Open()
	if list := s.Places(); len(list) != 2 || list[1].Rect != at(5, 0, 5, 6) {
		t.Errorf("behind a long list: %v", list)
	}
}
