package bus_test

import (
	"slices"
	"strings"
	"testing"

	"casement/api"
	"casement/bus"
)

func TestP16_1_Examples(t *testing.T) {
	b := bus.New()
	if b.Open(1) != 0 || b.Open(2) != 0 || b.Subscribe(1, 3, true) != 0 {
		t.Fatal("Open, Subscribe")
	}
	e := api.Event{Kind: 3, A: 7, B: -8, Text: "nine"}
	if n := b.Publish(e); n != 1 {
		t.Errorf("Publish = %d", n)
	}
	if got, ok := b.Take(1); got != e || !ok {
		t.Errorf("Take(1) = %v, %v", got, ok)
	}
	if got, ok := b.Take(2); got != (api.Event{}) || ok {
		t.Errorf("Take(2) = %v, %v", got, ok)
	}
	for range 17 {
		b.Publish(e)
	}
	if b.Len(1) != 16 || b.Dropped(1) != 1 {
		t.Errorf("after 17 Len(1) is %d, Dropped(1) %d", b.Len(1), b.Dropped(1))
	}
}

func TestP16_1_OpenAndShut(t *testing.T) {
	b := bus.New()
	for p := 1; p <= 4; p++ {
		for _, want := range []api.Errno{0, 81, 81} {
			if code := b.Open(p); code != want {
				t.Errorf("Open(%d) = %d, not %d", p, code, want)
			}
		}
	}
	for p := 1; p <= 4; p++ {
		for _, want := range []api.Errno{0, 5, 5} {
			if code := b.Shut(p); code != want {
				t.Errorf("Shut(%d) = %d, not %d", p, code, want)
			}
		}
		if code := b.Open(p); code != 0 {
			t.Errorf("Open(%d) behind a Shut = %d", p, code)
		}
	}
}

// closed holds that a slot that isn't open does nothing and tells nothing.
func closed(t *testing.T, b *bus.Bus, p int) {
	t.Helper()
	for _, kind := range append(wrongKinds(), 1, 3, 8) {
		for _, on := range []bool{true, false} {
			if code := b.Subscribe(p, kind, on); code != 5 {
				t.Errorf("Subscribe(%d, %d) = %d", p, kind, code)
			}
		}
		if code := b.Send(p, api.Event{Kind: kind}); code != 5 {
			t.Errorf("Send(%d) = %d", p, code)
		}
	}
	if code := b.Shut(p); code != 5 {
		t.Errorf("Shut(%d) = %d", p, code)
	}
	if e, ok := b.Take(p); ok || e != (api.Event{}) {
		t.Errorf("Take(%d) = %v, %v", p, e, ok)
	}
	if b.Len(p) != 0 || b.Dropped(p) != 0 || len(b.Kinds(p)) != 0 || slices.Contains(b.Ready(), p) {
		t.Errorf("slot %d tells %d, %d, %v, %v", p, b.Len(p), b.Dropped(p), b.Kinds(p), b.Ready())
	}
}

func TestP16_1_NoSlot(t *testing.T) {
	b := bus.New()
	for _, p := range wrongSlots() {
		closed(t, b, p)
		if code := b.Open(p); code != 1 {
			t.Errorf("Open(%d) = %d", p, code)
		}
		closed(t, b, p)
	}
	for p := 1; p <= 4; p++ {
		b.Open(p)
		b.Subscribe(p, 1, true)
		b.Send(p, event(p, 1))
	}
	for _, p := range wrongSlots() {
		closed(t, b, p)
		if code := b.Open(p); code != 1 {
			t.Errorf("Open(%d) = %d", p, code)
		}
	}
	for p := 1; p <= 4; p++ {
		if got := tells(b, p); got != (told{waits: 1, kinds: "1", ready: true}) {
			t.Errorf("slot %d tells %v", p, got)
		}
	}
}

func TestP16_1_NotOpen(t *testing.T) {
	b := bus.New()
	for p := 1; p <= 4; p++ {
		closed(t, b, p)
	}
	if n := b.Publish(event(1, 3)); n != 0 || len(b.Ready()) != 0 {
		t.Errorf("nobody is there: Publish = %d, Ready() = %v", n, b.Ready())
	}
	for p := 1; p <= 4; p++ {
		b.Open(p)
		if got := tells(b, p); got != (told{}) {
			t.Errorf("slot %d, open now, tells %v", p, got)
		}
		b.Subscribe(p, 3, true)
		b.Publish(event(2, 3))
		b.Shut(p)
		closed(t, b, p)
	}
}

func TestP16_1_OpenAnew(t *testing.T) {
	b := bus.New()
	b.Open(2)
	for kind := 1; kind <= 8; kind++ {
		b.Subscribe(2, kind, true)
	}
	for n := range 20 {
		b.Send(2, event(n, 1))
	}
	if got := tells(b, 2); got != (told{waits: 16, dropped: 4, kinds: "12345678", ready: true}) {
		t.Errorf("before: %v", got)
	}
	if code := b.Open(2); code != 81 {
		t.Errorf("Open of an open one = %d", code)
	}
	if got := tells(b, 2); got != (told{waits: 16, dropped: 4, kinds: "12345678", ready: true}) {
		t.Errorf("an Open that is refused changes it: %v", got)
	}
	b.Shut(2)
	b.Open(2)
	if got := tells(b, 2); got != (told{}) {
		t.Errorf("open anew: %v", got)
	}
	if e, ok := b.Take(2); ok || e != (api.Event{}) {
		t.Errorf("open anew: Take = %v, %v", e, ok)
	}
	for kind := 1; kind <= 8; kind++ {
		if n := b.Publish(event(1, kind)); n != 0 {
			t.Errorf("open anew: Publish of kind %d = %d", kind, n)
		}
	}
}

func TestP16_1_Subscribe(t *testing.T) {
	b := bus.New()
	b.Open(1)
	for _, kind := range wrongKinds() {
		for _, on := range []bool{true, false} {
			if code := b.Subscribe(1, kind, on); code != 1 {
				t.Errorf("Subscribe(1, %d, %v) = %d", kind, on, code)
			}
		}
		if n := b.Publish(event(1, kind)); n != 0 || b.Len(1) != 0 {
			t.Errorf("Publish of kind %d = %d", kind, n)
		}
	}
	for _, x := range []struct {
		kind  int
		on    bool
		kinds []int
	}{
		{8, true, []int{8}}, {3, true, []int{3, 8}}, {3, true, []int{3, 8}}, {1, true, []int{1, 3, 8}}, {5, false, []int{1, 3, 8}},
		{3, false, []int{1, 8}}, {3, false, []int{1, 8}}, {7, true, []int{1, 7, 8}}, {1, false, []int{7, 8}}, {8, false, []int{7}}, {7, false, nil},
	} {
		if code := b.Subscribe(1, x.kind, x.on); code != 0 || !slices.Equal(b.Kinds(1), x.kinds) {
			t.Errorf("Subscribe(1, %d, %v) = %d, the kinds are %v, not %v", x.kind, x.on, code, b.Kinds(1), x.kinds)
		}
		for kind := -1; kind <= 10; kind++ {
			want := 0
			if slices.Contains(x.kinds, kind) {
				want = 1
			}
			if n := b.Publish(event(kind, kind)); n != want {
				t.Errorf("Publish of kind %d = %d, of %v", kind, n, x.kinds)
			}
			if e, ok := b.Take(1); ok != (want == 1) || ok && e != event(kind, kind) {
				t.Errorf("behind a Publish of kind %d: %v, %v", kind, e, ok)
			}
		}
	}
}

func TestP16_1_NoLongerSubscribed(t *testing.T) {
	x := begin(t)
	x.open(1)
	x.subscribe(1, 2, true)
	x.publish(event(1, 2))
	x.subscribe(1, 2, false)
	x.publish(event(2, 2))
	x.sees()
	x.take(1) // what waits is there still
	x.empties()
}

func TestP16_1_PublishToSome(t *testing.T) {
	for who := range 16 {
		for full := range 16 {
			x := begin(t)
			want := 0
			for p := 1; p <= 4; p++ {
				x.open(p)
				if who>>(p-1)&1 == 1 {
					x.subscribe(p, 4, true)
				}
				for n := range 15 + full>>(p-1)&1 {
					x.send(p, event(n, 9))
				}
				if who>>(p-1)&1 == 1 && full>>(p-1)&1 == 0 {
					want++
				}
			}
			if n := x.b.Publish(event(50, 4)); n != want || x.m.publish(event(50, 4)) != want {
				t.Fatalf("Publish to %b, of which %b are full: %d, not %d", who, full, n, want)
			}
			x.sees()
			x.empties()
		}
	}
}

func TestP16_1_SendSubscribedOrNot(t *testing.T) {
	for _, kind := range append(wrongKinds(), 1, 2, 8) {
		b := bus.New()
		b.Open(3)
		b.Subscribe(3, 2, true)
		for n := range 16 {
			if code := b.Send(3, event(n, kind)); code != 0 {
				t.Fatalf("Send of kind %d = %d", kind, code)
			}
		}
		for n := range 3 {
			if code := b.Send(3, event(20, kind)); code != 3 || b.Len(3) != 16 || b.Dropped(3) != n+1 {
				t.Fatalf("Send to a full one = %d, %d wait, %d were dropped", code, b.Len(3), b.Dropped(3))
			}
		}
		for n := range 16 {
			if e, ok := b.Take(3); e != event(n, kind) || !ok {
				t.Fatalf("Take = %v, %v", e, ok)
			}
		}
		if b.Dropped(3) != 3 || b.Send(3, event(30, kind)) != 0 || b.Len(3) != 1 {
			t.Errorf("behind a full one: %d wait, %d were dropped", b.Len(3), b.Dropped(3))
		}
	}
}

func TestP16_1_Text(t *testing.T) {
	for _, text := range []string{"", "a", strings.Repeat("x", 63), strings.Repeat("x", 63) + "yz", strings.Repeat("é", 32), "a" + strings.Repeat("é", 32), strings.Repeat("\xff\x00", 40), strings.Repeat("ab", 1<<20)} {
		b := bus.New()
		b.Open(1)
		b.Open(4)
		b.Subscribe(1, 6, true)
		b.Subscribe(4, 6, true)
		b.Publish(api.Event{Kind: 6, Text: text})
		b.Send(1, api.Event{Kind: 6, Text: text})
		want := api.Event{Kind: 6, Text: text}
		if len(text) > 64 {
			want.Text = text[:64]
		}
		for _, p := range []int{1, 4, 1} {
			if e, ok := b.Take(p); e != want || !ok {
				t.Errorf("the text of %d bytes is taken as %q", len(text), e.Text)
			}
		}
	}
}

func TestP16_1_Ready(t *testing.T) {
	b := bus.New()
	for _, p := range []int{4, 2, 3, 1} {
		b.Open(p)
	}
	for who := range 16 {
		var want []int
		for p := 4; p >= 1; p-- {
			if who>>(p-1)&1 == 1 {
				b.Send(p, event(p, 1))
				want = append([]int{p}, want...)
			}
		}
		if got := b.Ready(); !slices.Equal(got, want) {
			t.Errorf("Ready() = %v, not %v", got, want)
		}
		for p := 1; p <= 4; p++ {
			b.Take(p)
		}
		if got := b.Ready(); len(got) != 0 {
			t.Errorf("Ready() = %v of none", got)
		}
	}
}
