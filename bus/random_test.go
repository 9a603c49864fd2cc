package bus_test

import (
	"math/rand"
	"slices"
	"strings"
	"testing"
	"unsafe"

	"casement/api"
	"casement/bus"
)

// calls are few that touch one another much.
func calls() []func(x *both, n int) {
	return []func(x *both, n int){
		func(x *both, n int) { x.open(1) },
		func(x *both, n int) { x.open(4) },
		func(x *both, n int) { x.shut(1) },
		func(x *both, n int) { x.subscribe(1, 3, true) },
		func(x *both, n int) { x.subscribe(4, 3, true) },
		func(x *both, n int) { x.subscribe(1, 3, false) },
		func(x *both, n int) { x.publish(event(n, 3)) },
		func(x *both, n int) { x.send(1, event(n, 9)) },
		func(x *both, n int) { x.take(1) },
		func(x *both, n int) { x.take(4) },
	}
}

func TestP16_1_EveryOrderOfFewCalls(t *testing.T) {
	list := calls()
	orders := 1
	for range 5 {
		orders *= len(list)
	}
	for order := range orders {
		x := begin(t)
		for n, rest := 1, order; n <= 5; n, rest = n+1, rest/len(list) {
			list[rest%len(list)](x, n)
		}
		x.sees()
	}
}

// anything does one call of any kind, at any arguments.
func (x *both) anything(rnd *rand.Rand, n int) {
	x.t.Helper()
	p := pick(rnd, slots()...)
	kind := pick(rnd, pick(rnd, wrongKinds()...), rnd.Intn(9), 1+rnd.Intn(3), 1+rnd.Intn(3), 1+rnd.Intn(3))
	switch rnd.Intn(20) {
	case 0, 1:
		x.open(p)
	case 2:
		if rnd.Intn(4) == 0 {
			x.shut(p)
		}
	case 3, 4, 5:
		x.subscribe(p, kind, rnd.Intn(3) > 0)
	case 6, 7, 8, 9, 10:
		x.publish(event(n, kind))
	case 11, 12, 13:
		x.send(p, event(n, kind))
	case 14, 15, 16, 17, 18:
		x.take(p)
	case 19:
		for m := range rnd.Intn(18) {
			x.send(p, event(n+m, kind))
		}
	}
}

func TestP16_1_ManyCalls(t *testing.T) {
	for seed := range int64(40) {
		rnd := rand.New(rand.NewSource(seed))
		x := begin(t)
		for n := range 2000 {
			x.anything(rnd, n)
			if n%3 == 0 {
				x.sees()
			}
		}
		x.empties()
	}
}

func TestP16_2_InOrderAndAsMany(t *testing.T) {
	rnd := rand.New(rand.NewSource(2))
	for range 200 {
		b := bus.New()
		p := 1 + rnd.Intn(4)
		b.Open(p)
		b.Subscribe(p, 1, true)
		var in, out []api.Event // what was put in, what was taken
		came, few := 0, 1+rnd.Intn(10)
		for n := range 300 {
			switch kind := rnd.Intn(12); {
			case kind < few:
				if e, ok := b.Take(p); ok {
					out = append(out, e)
				}
			case kind%3 == 0:
				came++
				if b.Send(p, event(n, 2)) == 0 {
					in = append(in, event(n, 2))
				}
			case kind%3 == 1:
				came++
				if b.Publish(event(n, 1)) == 1 {
					in = append(in, event(n, 1))
				}
			default:
				b.Publish(event(n, 2)) // it doesn't come for the slot
			}
			if len(out)+b.Len(p)+b.Dropped(p) != came || len(in)+b.Dropped(p) != came {
				t.Fatalf("%d came: %d were taken, %d wait, %d were dropped", came, len(out), b.Len(p), b.Dropped(p))
			}
		}
		for e, ok := b.Take(p); ok; e, ok = b.Take(p) {
			out = append(out, e)
		}
		if len(out) != len(in) || b.Len(p) != 0 {
			t.Fatalf("%d were put in, %d were taken", len(in), len(out))
		}
		for i := range out {
			e := in[i]
			e.Text = e.Text[:min(len(e.Text), 64)]
			if out[i] != e {
				t.Fatalf("taken as number %d: %v, not %v", i, out[i], e)
			}
		}
	}
}

// deed is a call that may be done to another bus, too.
type deed struct {
	kind, p, n int
}

// do does it; what it tells of its slot.
func (d deed) do(b *bus.Bus) (code api.Errno, e api.Event, ok bool) {
	switch d.kind {
	case 0:
		code = b.Open(d.p)
	case 1:
		code = b.Shut(d.p)
	case 2:
		code = b.Subscribe(d.p, d.n%8+1, d.n%3 > 0)
	case 3:
		code = b.Send(d.p, event(d.n, d.n%11))
	case 4:
		e, ok = b.Take(d.p)
	}
	return code, e, ok
}

func TestP16_3_SlotsAreApart(t *testing.T) {
	rnd := rand.New(rand.NewSource(3))
	for range 300 {
		all := bus.New()
		var alone [5]*bus.Bus // one for each slot, with what is done to that slot only
		for p := 1; p <= 4; p++ {
			alone[p] = bus.New()
		}
		for n := range 300 {
			if rnd.Intn(4) == 0 {
				got, want := all.Publish(event(n, n%8+1)), 0
				for p := 1; p <= 4; p++ {
					want += alone[p].Publish(event(n, n%8+1))
				}
				if got != want {
					t.Fatalf("Publish = %d, to each alone %d", got, want)
				}
			}
			d := deed{kind: rnd.Intn(5), p: 1 + rnd.Intn(4), n: n}
			if d.kind == 1 && rnd.Intn(5) > 0 {
				continue
			}
			code, e, ok := d.do(all)
			if other, f, also := d.do(alone[d.p]); code != other || e != f || ok != also {
				t.Fatalf("%v: %d, %v, %v; alone %d, %v, %v", d, code, e, ok, other, f, also)
			}
			for p := 1; p <= 4; p++ {
				if got, want := tells(all, p), tells(alone[p], p); got != want {
					t.Fatalf("%v: slot %d tells %v, alone %v", d, p, got, want)
				}
			}
		}
	}
}

func TestP16_3_BusesAreApart(t *testing.T) {
	rnd := rand.New(rand.NewSource(33))
	x, y := begin(t), begin(t)
	for n := range 3000 {
		x.anything(rnd, n)
		y.anything(rnd, -n)
		x.sees()
		y.sees()
	}
}

func TestP16_4_AnswersAreNewMemory(t *testing.T) {
	b := bus.New()
	for p := 1; p <= 4; p++ {
		b.Open(p)
		b.Send(p, event(p, 1))
		for kind := 1; kind <= 2*p; kind++ {
			b.Subscribe(p, kind, true)
		}
	}
	spoil(b.Ready(), 77)
	for p := 1; p <= 4; p++ {
		spoil(b.Kinds(p), 77)
	}
	ready, kinds := b.Ready(), b.Kinds(4)
	for p := 1; p <= 4; p++ {
		if got := tells(b, p); got != (told{waits: 1, kinds: "12345678"[:2*p], ready: true}) {
			t.Errorf("behind answers that were written over: %v", got)
		}
	}
	b.Take(1)
	b.Subscribe(4, 1, false)
	b.Shut(3)
	if !slices.Equal(ready, []int{1, 2, 3, 4}) || !slices.Equal(kinds, []int{1, 2, 3, 4, 5, 6, 7, 8}) {
		t.Errorf("what was answered has become %v, %v", ready, kinds)
	}
}

func TestP16_4_ArgumentsAreNotKept(t *testing.T) {
	for _, size := range []int{1, 63, 64, 65, 5000} {
		b := bus.New()
		b.Open(1)
		b.Open(2)
		b.Subscribe(1, 3, true)
		b.Subscribe(2, 3, true)
		room := []byte(strings.Repeat("x", size))
		text := unsafe.String(&room[0], size) // the caller's room, which it may write over
		b.Publish(api.Event{Kind: 3, Text: text})
		b.Send(2, api.Event{Kind: 4, Text: text})
		spoil(room, 'y')
		for _, p := range []int{1, 2, 2} {
			if e, ok := b.Take(p); !ok || e.Text != strings.Repeat("x", min(size, 64)) {
				t.Errorf("a text of %d bytes is kept: %q", size, e.Text)
			}
		}
	}
}
