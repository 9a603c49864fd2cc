package keys_test

import (
	"math/rand"
	"slices"
	"strconv"
	"testing"
	"unsafe"

	"casement/api"
	"casement/keys"
)

// calls are few that touch one another much.
func calls() []func(b *both, n int) {
	return []func(b *both, n int){
		func(b *both, n int) { b.bind("m", few()[:1], strconv.Itoa(n)) },
		func(b *both, n int) { b.bind("m", few()[:2], strconv.Itoa(n)) },
		func(b *both, n int) { b.bind("m", few()[:3], strconv.Itoa(n)) },
		func(b *both, n int) { b.bind("m", few()[1:3], strconv.Itoa(n)) },
		func(b *both, n int) { b.bind("n", few()[:2], strconv.Itoa(n)) },
		func(b *both, n int) { b.mode("m") },
		func(b *both, n int) { b.mode("n") },
		func(b *both, n int) { b.press(few()[0]) },
		func(b *both, n int) { b.press(few()[1]) },
		func(b *both, n int) { b.press(few()[2]) },
	}
}

func TestP18_1_EveryOrderOfFewCalls(t *testing.T) {
	list := calls()
	orders := 1
	for range 5 {
		orders *= len(list)
	}
	for order := range orders {
		b := begin(t)
		b.mode("m")
		for n, rest := 0, order; n < 5; n, rest = n+1, rest/len(list) {
			list[rest%len(list)](b, n)
		}
		b.sees()
	}
}

// anything does one call of any kind, at any arguments.
func (b *both) anything(rnd *rand.Rand, n int) {
	b.t.Helper()
	switch rnd.Intn(20) {
	case 0, 1, 2:
		b.bind(pick(rnd, modes()...), someSeq(rnd, 5), "does "+strconv.Itoa(n))
	case 3:
		b.bind(pick(rnd, modes()[:3]...), []api.Key{someKey(rnd)}, pick(rnd, append(modes(), "x", "y", "z")...))
	case 4:
		b.bind("m", append(someSeq(rnd, 2), pick(rnd, wrongKeys()...)), "wrong")
	case 5:
		b.mode(pick(rnd, modes()...))
	case 6:
		b.press(pick(rnd, append(wrongKeys(), someKey(rnd))...))
	default:
		b.press(pick(rnd, few()...))
	}
}

func TestP18_1_ManyCalls(t *testing.T) {
	for seed := range int64(60) {
		rnd := rand.New(rand.NewSource(seed))
		b := begin(t)
		b.mode("m")
		for n := range 1000 {
			b.anything(rnd, n)
			b.sees()
		}
	}
}

// bound is a board with lists of few keys, in a mode, by what they stand for.
func bound(rnd *rand.Rand) (*keys.Board, map[string][]api.Key) {
	x := keys.New()
	lists := map[string][]api.Key{}
	seen := map[string]struct{}{} // a list that is there already would be replaced
	for n := range 30 {
		seq, does := someSeq(rnd, 4), strconv.Itoa(n)
		if _, there := seen[text(seq)]; !there && x.Bind("m", seq, does) == api.OK {
			lists[does] = seq
		}
		seen[text(seq)] = struct{}{}
	}
	x.Mode("m")
	return x, lists
}

func TestP18_3_NoneIsLost(t *testing.T) {
	for seed := range int64(300) {
		rnd := rand.New(rand.NewSource(seed))
		x, lists := bound(rnd)
		var pressed, came []api.Key // came: told, or in the lists of what was told
		stood := 0
		for range 300 {
			k := pick(rnd, append(few(), few()[0], key('q', 0), key('i', 1))...)
			pressed = append(pressed, k)
			does, told := x.Press(k)
			if does != "" && (len(told) > 0 || len(lists[does]) == 0) || len(told) > 0 && len(x.Waits()) > 0 || does != "" && len(x.Waits()) > 0 {
				t.Fatalf("Press(%v) = %q, %v, and %v waits", k, does, told, x.Waits())
			}
			if does != "" {
				stood++
			}
			came = slices.Concat(came, lists[does], told)
			if all := slices.Concat(came, x.Waits()); !slices.Equal(all, pressed) {
				t.Fatalf("of %v, which were pressed, %v came", pressed, all)
			}
		}
		if stood == 0 && len(lists) > 2 {
			t.Errorf("seed %d: none of %d lists was pressed", seed, len(lists))
		}
	}
}

func TestP18_3_EveryListIsFound(t *testing.T) {
	for seed := range int64(300) {
		x, lists := bound(rand.New(rand.NewSource(seed)))
		for does, seq := range lists {
			for i, k := range seq {
				if i == len(seq)-1 {
					presses(t, x, k, does)
					waiting(t, x)
				} else {
					presses(t, x, k, "")
					waiting(t, x, seq[:i+1]...)
				}
			}
		}
	}
}

func TestP18_3_OnlyModeLosesKeys(t *testing.T) {
	x := keys.New()
	x.Bind("m", parsed("a b c"), "does")
	x.Mode("m")
	x.Press(key('a', 0))
	x.Press(key('b', 0))
	x.All("m")
	x.Waits()
	x.Bind("m", parsed("a"), "none")
	x.Bind("m", parsed("a b c"), "other")
	x.Bind("n", parsed("a"), "does")
	waiting(t, x, key('a', 0), key('b', 0))
	x.Mode("m")
	waiting(t, x)
	presses(t, x, key('c', 0), "", key('c', 0))
}

func TestP18_4_BoardsAnswersAreNewMemory(t *testing.T) {
	x := keys.New()
	a, b, q, odd := key('a', 0), key('b', 0), key('q', 0), key('x', 9)
	x.Bind("m", []api.Key{a, b, a, b}, "one")
	x.Bind("m", []api.Key{b}, "two")
	x.Mode("m")
	presses(t, x, a, "")
	spoil(x.Waits(), odd)
	waiting(t, x, a)
	presses(t, x, b, "")
	waits := x.Waits()
	spoil(x.Waits(), odd)
	presses(t, x, a, "")
	waiting(t, x, a, b, a)
	_, told := x.Press(q)
	_, second := x.Press(q)
	presses(t, x, a, "")
	spoil(second, odd)
	waiting(t, x, a)
	if !slices.Equal(waits, []api.Key{a, b}) || !slices.Equal(told, []api.Key{a, b, a, q}) {
		t.Errorf("what was answered has become %v, %v", waits, told)
	}
	spoil(told, odd)
	presses(t, x, b, "")
	presses(t, x, a, "")
	presses(t, x, b, "one")
	spoil(x.All("m"), "spoilt")
	if got := x.All("m"); !slices.Equal(got, []string{"one", "two"}) {
		t.Errorf("behind a list that was written over All(m) = %q", got)
	}
}

func TestP18_4_BindKeepsNothing(t *testing.T) {
	seq := append(parsed("a b"), parsed("c d e")...)
	kept := slices.Clone(seq)
	texts := []byte("modedoes")
	mode, does := unsafe.String(&texts[0], 4), unsafe.String(&texts[4], 4) // the caller's room, which it may write over
	x := keys.New()
	x.Bind(mode, seq[:2], does)
	x.Mode(mode)
	if !slices.Equal(seq, kept) {
		t.Errorf("Bind makes %v of %v", seq, kept)
	}
	spoil(seq, key('z', 0))
	spoil(texts, '?')
	presses(t, x, key('a', 0), "")
	presses(t, x, key('b', 0), "does")
	x.Bind("mode", kept[:2], unsafe.String(&texts[0], 4))
	spoil(texts, '!')
	if got := x.All("mode"); !slices.Equal(got, []string{"????"}) {
		t.Errorf("All(mode) = %q", got)
	}
}

func TestP18_4_BoardsAreApart(t *testing.T) {
	rnd := rand.New(rand.NewSource(44))
	x, y := begin(t), begin(t)
	for n := range 1000 {
		x.anything(rnd, n)
		y.anything(rnd, -n)
		x.sees()
		y.sees()
	}
}
