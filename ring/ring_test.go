package ring_test

import (
	"math"
	"math/rand"
	"runtime"
	"slices"
	"strconv"
	"testing"
	"weak"

	"casement/ring"
)

// mosts are how many things may be asked for: at the ends of int, about none, and about the most that may be.
var mosts = []int{math.MinInt, -1001, -5, -1, 0, 1, 2, 3, 7, 999, 1000, 1001, 5000, math.MaxInt}

// model does what the document says, word by word, on a list that is made anew for each call.
type model[T any] struct {
	things     []T
	most, gone int
}

// shrink takes any number; the oldest ones that are too many go.
func (m *model[T]) shrink(most int) {
	if most < 0 {
		most = 0
	}
	if most > 1000 {
		most = 1000
	}
	m.most = most
	for len(m.things) > most {
		m.things = slices.Clone(m.things[1:])
		m.gone++
	}
}

func (m *model[T]) push(v T) (out T, ok bool) {
	m.things = append(slices.Clone(m.things), v)
	if len(m.things) > m.most {
		out, ok = m.things[0], true
		m.things = slices.Clone(m.things[1:])
		m.gone++
	}
	return out, ok
}

func (m *model[T]) pop() (out T, ok bool) {
	if n := len(m.things); n > 0 {
		out, ok = m.things[n-1], true
		m.things = slices.Clone(m.things[:n-1])
	}
	return out, ok
}

// same holds a ring against what it should be, by all that it tells.
func same[T comparable](t *testing.T, what string, r *ring.Ring[T], m model[T]) {
	t.Helper()
	if r.Len() != len(m.things) || r.Gone() != m.gone || !slices.Equal(r.All(), m.things) {
		t.Fatalf("%s: %d things, %d gone: %v; not %d, %d: %v", what, r.Len(), r.Gone(), r.All(), len(m.things), m.gone, m.things)
	}
	for i, want := range m.things {
		if v, ok := r.At(i); v != want || !ok {
			t.Fatalf("%s: At(%d) = %v, %v, not %v", what, i, v, ok, want)
		}
	}
	var none T
	for _, i := range []int{math.MinInt, -1001, -2, -1, len(m.things), len(m.things) + 1, m.most, 1000, math.MaxInt} {
		if i >= 0 && i < len(m.things) {
			continue
		}
		if v, ok := r.At(i); v != none || ok {
			t.Fatalf("%s: At(%d) = %v, %v", what, i, v, ok)
		}
	}
}

// both lets a ring and its model do one call, and holds what they answer against each other.
type both struct {
	r *ring.Ring[int]
	m model[int]
}

func begin(most int) *both {
	b := &both{r: ring.New[int](most)}
	b.m.shrink(most)
	return b
}

func (b *both) push(t *testing.T, v int) {
	t.Helper()
	got, ok := b.r.Push(v)
	if want, wantOK := b.m.push(v); got != want || ok != wantOK {
		t.Fatalf("Push(%d) = %d, %v, not %d, %v", v, got, ok, want, wantOK)
	}
}

func (b *both) pop(t *testing.T) {
	t.Helper()
	got, ok := b.r.Pop()
	if want, wantOK := b.m.pop(); got != want || ok != wantOK {
		t.Fatalf("Pop() = %d, %v, not %d, %v", got, ok, want, wantOK)
	}
}

func (b *both) shrink(most int) {
	b.r.Shrink(most)
	b.m.shrink(most)
}

func TestP3_1_Example(t *testing.T) {
	r := ring.New[int](2)
	for _, x := range []struct {
		v, out int
		ok     bool
	}{{1, 0, false}, {2, 0, false}, {3, 1, true}} {
		if v, ok := r.Push(x.v); v != x.out || ok != x.ok {
			t.Errorf("Push(%d) = %d, %v", x.v, v, ok)
		}
	}
	if !slices.Equal(r.All(), []int{2, 3}) || r.Gone() != 1 || r.Len() != 2 {
		t.Errorf("All = %v, Gone = %d, Len = %d", r.All(), r.Gone(), r.Len())
	}
	if v, ok := r.Pop(); v != 3 || !ok {
		t.Errorf("Pop = %d, %v", v, ok)
	}
	if v, ok := r.At(0); v != 2 || !ok {
		t.Errorf("At(0) = %d, %v", v, ok)
	}
	if v, ok := r.At(1); v != 0 || ok {
		t.Errorf("At(1) = %d, %v", v, ok)
	}
	if r.Gone() != 1 {
		t.Errorf("a Pop is no push: Gone = %d", r.Gone())
	}
}

func TestP3_1_HowManyMayBe(t *testing.T) {
	for _, most := range mosts {
		b := begin(most)
		same(t, "New("+strconv.Itoa(most)+")", b.r, b.m)
		b.pop(t)
		for v := range 1003 {
			b.push(t, v+1)
		}
		same(t, "New("+strconv.Itoa(most)+") of 1003 pushed", b.r, b.m)
		if want := max(0, min(most, 1000)); b.r.Len() != want || b.r.Gone() != 1003-want {
			t.Errorf("New(%d) of 1003 pushed has %d, %d are gone", most, b.r.Len(), b.r.Gone())
		}
	}
}

func TestP3_1_RingOfNone(t *testing.T) {
	for _, most := range []int{math.MinInt, -1, 0} {
		r := ring.New[string](most)
		for i := range 3 {
			if v, ok := r.Push("x"); v != "x" || !ok || r.Gone() != i+1 || r.Len() != 0 || len(r.All()) != 0 {
				t.Errorf("a ring of none: Push = %q, %v; Gone %d, All %q", v, ok, r.Gone(), r.All())
			}
		}
		if v, ok := r.Pop(); v != "" || ok {
			t.Errorf("a ring of none: Pop = %q, %v", v, ok)
		}
		if v, ok := r.At(0); v != "" || ok {
			t.Errorf("a ring of none: At(0) = %q, %v", v, ok)
		}
	}
}

func TestP3_1_RingOfOne(t *testing.T) {
	b := begin(1)
	for v := range 5 {
		b.push(t, v+1)
		same(t, "a ring of one", b.r, b.m)
	}
	b.pop(t)
	b.pop(t)
	same(t, "a ring of one that is empty", b.r, b.m)
	b.push(t, 9)
	same(t, "a ring of one that was empty", b.r, b.m)
	if b.r.Gone() != 4 {
		t.Errorf("Gone = %d", b.r.Gone())
	}
}

func TestP3_1_ShrinkTable(t *testing.T) {
	for _, x := range []struct {
		most, pushed, pops, shrink int
		all                        []int
		gone                       int
	}{
		{5, 5, 0, 3, []int{3, 4, 5}, 2},
		{5, 7, 0, 3, []int{5, 6, 7}, 4},
		{5, 7, 2, 3, []int{3, 4, 5}, 2},
		{5, 7, 3, 3, []int{3, 4}, 2},
		{5, 2, 0, 3, []int{1, 2}, 0},
		{5, 7, 0, 5, []int{3, 4, 5, 6, 7}, 2},
		{5, 7, 0, 1, []int{7}, 6},
		{5, 7, 0, 0, nil, 7},
		{5, 7, 0, -1, nil, 7},
		{5, 7, 0, math.MinInt, nil, 7},
		{5, 7, 5, 0, nil, 2},
		{5, 7, 0, 6, []int{3, 4, 5, 6, 7}, 2},
		{5, 7, 0, math.MaxInt, []int{3, 4, 5, 6, 7}, 2},
		{0, 3, 0, 2, nil, 3},
	} {
		b := begin(x.most)
		for v := range x.pushed {
			b.push(t, v+1)
		}
		for range x.pops {
			b.pop(t)
		}
		b.shrink(x.shrink)
		if !slices.Equal(b.r.All(), x.all) || b.r.Gone() != x.gone {
			t.Errorf("%d of %d, %d popped, Shrink(%d): %v, %d gone, not %v, %d", x.pushed, x.most, x.pops, x.shrink, b.r.All(), b.r.Gone(), x.all, x.gone)
		}
		for v := range 1002 {
			b.push(t, v+100)
		}
		same(t, "behind a Shrink", b.r, b.m)
	}
}

func TestP3_1_EveryOrderOfFewCalls(t *testing.T) {
	const calls, kinds = 6, 6 // a push, a pop, and a Shrink to 0, 1, 2, 3
	orders := 1
	for range calls {
		orders *= kinds
	}
	for most := range 4 {
		for order := range orders {
			b := begin(most)
			for rest, v := order, 1; v <= calls; rest, v = rest/kinds, v+1 {
				switch kind := rest % kinds; kind {
				case 0:
					b.push(t, v)
				case 1:
					b.pop(t)
				default:
					b.shrink(kind - 2)
				}
			}
			same(t, "New("+strconv.Itoa(most)+"), calls of order "+strconv.Itoa(order), b.r, b.m)
		}
	}
}

func TestP3_1_ManyCalls(t *testing.T) {
	rnd := rand.New(rand.NewSource(1))
	for range 8 {
		for _, most := range mosts {
			b := begin(most)
			for v := range rnd.Intn(1500) {
				b.push(t, v+1)
			}
			for v := range 150 {
				switch kind := rnd.Intn(20); {
				case kind < 11:
					b.push(t, 2000+v)
				case kind < 18:
					b.pop(t)
				case kind < 19:
					b.shrink(rnd.Intn(9))
				default:
					b.shrink(mosts[rnd.Intn(len(mosts))])
				}
				if v%10 == 9 {
					same(t, "many calls", b.r, b.m)
				}
			}
		}
	}
}

func TestP3_1_ThingsOfAnyKind(t *testing.T) {
	type pair struct {
		name string
		n    int
	}
	r := ring.New[pair](2)
	var m model[pair]
	m.shrink(2)
	for i := range 5 {
		v := pair{strconv.Itoa(i), i}
		got, ok := r.Push(v)
		if want, wantOK := m.push(v); got != want || ok != wantOK {
			t.Errorf("Push(%v) = %v, %v", v, got, ok)
		}
		same(t, "pairs", r, m)
	}
	one, two := 1, 2
	p := ring.New[*int](1)
	if v, ok := p.Push(&one); v != nil || ok {
		t.Errorf("Push = %v, %v", v, ok)
	}
	if v, ok := p.Push(&two); v != &one || !ok {
		t.Errorf("Push = %v, %v", v, ok)
	}
	if v, ok := p.Pop(); v != &two || !ok {
		t.Errorf("Pop = %v, %v", v, ok)
	}
	if v, ok := p.Pop(); v != nil || ok {
		t.Errorf("Pop of nothing = %v, %v", v, ok)
	}
	e := ring.New[error](1)
	if v, ok := e.Push(nil); v != nil || ok || e.Len() != 1 {
		t.Errorf("a nil that is pushed is a thing: %v, %v, %d", v, ok, e.Len())
	}
	if v, ok := e.Push(nil); v != nil || !ok {
		t.Errorf("a nil that is pushed out: %v, %v", v, ok)
	}
}

func TestP3_2_AllIsTheEnd(t *testing.T) {
	for _, most := range mosts {
		r := ring.New[int](most)
		var pushed []int
		may := max(0, min(most, 1000))
		for v := range 2500 {
			r.Push(v * 3)
			pushed = append(pushed, v*3)
			end := pushed[max(0, len(pushed)-may):]
			if v%83 == 0 && !slices.Equal(r.All(), end) {
				t.Fatalf("New(%d) of %d pushed: %v, not %v", most, v+1, r.All(), end)
			}
		}
		for _, less := range []int{1200, 999, 500, 3, 2, 1, 0} {
			r.Shrink(less)
			may = min(may, less)
			if end := pushed[len(pushed)-may:]; !slices.Equal(r.All(), end) || r.Gone() != len(pushed)-may {
				t.Fatalf("New(%d), Shrink(%d): %v, %d gone, not %v", most, less, r.All(), r.Gone(), end)
			}
		}
	}
}

func TestP3_2_AllIsTheEndWhileItShrinks(t *testing.T) {
	r := ring.New[int](9)
	var pushed []int
	has := 0
	for v := range 300 {
		most := (v * 7) % 11 // it grows, too: there is room then, but what went is gone
		if v%5 == 0 {
			r.Shrink(most)
			has = min(has, most)
		}
		r.Push(v)
		pushed = append(pushed, v)
		has = r.Len()
		if !slices.Equal(r.All(), pushed[len(pushed)-has:]) || r.Gone() != len(pushed)-has {
			t.Fatalf("of %v: %v, %d gone", pushed, r.All(), r.Gone())
		}
	}
}

// spoil writes over a list and its spare room.
func spoil[T any](list []T, v T) {
	list = list[:cap(list)]
	for i := range list {
		list[i] = v
	}
}

func TestP3_3_AllIsNewMemory(t *testing.T) {
	for pushed := range 9 {
		for pops := range pushed + 1 {
			b := begin(5)
			for v := range pushed {
				b.push(t, v+1)
			}
			for range pops {
				b.pop(t)
			}
			first, second := b.r.All(), b.r.All()
			spoil(first, -7)
			same(t, "behind an All that was written over", b.r, b.m)
			if !slices.Equal(second, b.m.things) {
				t.Fatalf("another All is %v, not %v", second, b.m.things)
			}
			b.push(t, 100)
			b.push(t, 101)
			same(t, "pushed behind an All that was written over", b.r, b.m)
			third := b.r.All()
			kept := slices.Clone(third)
			for v := range 9 {
				b.push(t, 200+v)
			}
			b.shrink(2)
			b.pop(t)
			if !slices.Equal(third, kept) {
				t.Fatalf("an All that was answered has become %v, not %v", third, kept)
			}
		}
	}
}

func TestP3_3_RingsShareNothing(t *testing.T) {
	a, b := begin(3), begin(3)
	for v := range 10 {
		a.push(t, v)
		b.push(t, -v)
		if v%4 == 3 {
			a.pop(t)
			b.shrink(2 + v%2)
		}
		same(t, "the one", a.r, a.m)
		same(t, "the other", b.r, b.m)
	}
}

// big is a thing whose end the collector tells.
type big struct {
	next *big
	room [64]int
}

// pushBig pushes a new thing, that nothing but the ring leads to.
func pushBig(r *ring.Ring[*big]) weak.Pointer[big] {
	v := &big{}
	r.Push(v)
	return weak.Make(v)
}

func TestP3_1_WhatIsGoneIsNotKept(t *testing.T) {
	r := ring.New[*big](4)
	var all []weak.Pointer[big]
	for range 6 {
		all = append(all, pushBig(r)) // the first two are pushed out
	}
	r.Pop()
	r.Shrink(2)
	runtime.GC()
	for i, w := range all {
		kept := w.Value() != nil
		if there := i == 3 || i == 4; kept != there {
			t.Errorf("thing %d: is it there: %v; is it kept: %v", i, there, kept)
		}
	}
	if r.Len() != 2 {
		t.Errorf("Len = %d", r.Len())
	}
	r.Pop()
	r.Pop()
	runtime.GC()
	if all[3].Value() != nil || all[4].Value() != nil {
		t.Error("things that were popped are kept")
	}
	runtime.KeepAlive(r)
}
