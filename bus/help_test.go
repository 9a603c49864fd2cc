package bus_test

import (
	"math"
	"math/rand"
	"slices"
	"strconv"
	"strings"
	"testing"

	"casement/api"
	"casement/bus"
)

// box is a model's open slot: all that ever came for it and wasn't dropped, of which some were taken.
type box struct {
	kinds   map[int]struct{}
	came    []api.Event
	taken   int
	dropped int
}

// model does what the chapter says on slots that are there only while they are open.
type model map[int]*box

func (m model) open(p int) api.Errno {
	if p < 1 || p > 4 {
		return 1
	}
	if _, there := m[p]; there {
		return 81
	}
	m[p] = &box{kinds: map[int]struct{}{}}
	return 0
}

func (m model) shut(p int) api.Errno {
	if _, there := m[p]; !there {
		return 5
	}
	delete(m, p)
	return 0
}

func (m model) subscribe(p, kind int, on bool) api.Errno {
	if _, there := m[p]; !there {
		return 5
	}
	if kind < 1 || kind > 8 {
		return 1
	}
	delete(m[p].kinds, kind)
	if on {
		m[p].kinds[kind] = struct{}{}
	}
	return 0
}

func (m model) send(p int, e api.Event) api.Errno {
	x, there := m[p]
	if !there {
		return 5
	}
	if len(x.came)-x.taken >= 16 {
		x.dropped++
		return 3
	}
	if len(e.Text) > 64 {
		e.Text = e.Text[:64]
	}
	x.came = append(x.came, e)
	return 0
}

func (m model) publish(e api.Event) (got int) {
	for p, x := range m {
		if _, wants := x.kinds[e.Kind]; wants && m.send(p, e) == 0 {
			got++
		}
	}
	return got
}

func (m model) take(p int) (api.Event, bool) {
	x, there := m[p]
	if !there || x.taken == len(x.came) {
		return api.Event{}, false
	}
	x.taken++
	return x.came[x.taken-1], true
}

// told is all that is told of a slot by the calls that change nothing.
type told struct {
	waits, dropped int
	kinds          string // one behind the other
	ready          bool
}

func (m model) told(p int) (x told) {
	if y, there := m[p]; there {
		x = told{waits: len(y.came) - y.taken, dropped: y.dropped}
		x.ready = x.waits > 0
		for kind := range 9 {
			if _, on := y.kinds[kind]; on {
				x.kinds += strconv.Itoa(kind)
			}
		}
	}
	return x
}

// tells is what a bus tells of a slot.
func tells(b *bus.Bus, p int) told {
	x := told{waits: b.Len(p), dropped: b.Dropped(p), ready: slices.Contains(b.Ready(), p)}
	for _, kind := range b.Kinds(p) {
		x.kinds += strconv.Itoa(kind)
	}
	return x
}

// both lets a bus and its model do one call, and holds what they answer against each other.
type both struct {
	t *testing.T
	b *bus.Bus
	m model
}

func begin(t *testing.T) *both {
	b := bus.New()
	if b == nil {
		t.Fatal("New() = nil")
	}
	return &both{t: t, b: b, m: model{}}
}

// sees holds all slots, also those that aren't any, to the model.
func (x *both) sees() {
	x.t.Helper()
	var ready []int
	for p := range 7 {
		want := x.m.told(p)
		if got := tells(x.b, p); got != want {
			x.t.Fatalf("slot %d tells %v, not %v", p, got, want)
		}
		if want.ready {
			ready = append(ready, p)
		}
	}
	if got := x.b.Ready(); !slices.Equal(got, ready) {
		x.t.Fatalf("Ready() = %v, not %v", got, ready)
	}
}

func (x *both) code(what string, got, want api.Errno) {
	x.t.Helper()
	if got != want {
		x.t.Fatalf("%s = %d, not %d", what, got, want)
	}
}

func (x *both) open(p int) {
	x.t.Helper()
	x.code("Open "+strconv.Itoa(p), x.b.Open(p), x.m.open(p))
}

func (x *both) shut(p int) {
	x.t.Helper()
	x.code("Shut "+strconv.Itoa(p), x.b.Shut(p), x.m.shut(p))
}

func (x *both) subscribe(p, kind int, on bool) {
	x.t.Helper()
	x.code("Subscribe "+strconv.Itoa(p)+", "+strconv.Itoa(kind), x.b.Subscribe(p, kind, on), x.m.subscribe(p, kind, on))
}

func (x *both) send(p int, e api.Event) {
	x.t.Helper()
	x.code("Send "+strconv.Itoa(p), x.b.Send(p, e), x.m.send(p, e))
}

func (x *both) publish(e api.Event) {
	x.t.Helper()
	if got, want := x.b.Publish(e), x.m.publish(e); got != want {
		x.t.Fatalf("Publish(%v) = %d, not %d", e, got, want)
	}
}

func (x *both) take(p int) {
	x.t.Helper()
	got, ok := x.b.Take(p)
	if want, wantOK := x.m.take(p); got != want || ok != wantOK {
		x.t.Fatalf("Take(%d) = %v, %v, not %v, %v", p, got, ok, want, wantOK)
	}
}

// empties takes all that waits, and once more.
func (x *both) empties() {
	x.t.Helper()
	for p := range 7 {
		for range 17 {
			x.take(p)
		}
	}
	x.sees()
}

// event is one that no other number makes.
func event(n int, kind int) api.Event {
	return api.Event{Kind: kind, A: int64(n), B: -int64(n) << 33, Text: strconv.Itoa(n) + strings.Repeat("é", max(n, -n)%50)}
}

// slots are numbers of slots, and of none.
func slots() []int {
	return []int{1, 2, 3, 4, 1, 2, 3, 4, 1, 2, 3, 4, 0, 5, -1, 6, math.MinInt, math.MaxInt, 1<<32 + 1, -4}
}

// wrongSlots are of none.
func wrongSlots() []int {
	return []int{0, 5, 6, 8, -1, -2, -4, 100, 1 << 32, 1<<32 + 1, math.MinInt, math.MinInt + 1, math.MaxInt}
}

// wrongKinds are kinds of which no slot can ask for events.
func wrongKinds() []int {
	return []int{0, 9, 10, 16, 99, -1, -3, 1<<32 + 3, 1 << 62, math.MinInt, math.MinInt + 3, math.MaxInt}
}

func pick[T any](rnd *rand.Rand, of ...T) T { return of[rnd.Intn(len(of))] }

// spoil writes over a list and its spare room.
func spoil[T any](list []T, v T) {
	list = list[:cap(list)]
	for i := range list {
		list[i] = v
	}
}
