package timer_test

import (
	"math"
	"math/rand"
	"slices"
	"testing"

	"casement/timer"
)

// calls are few that touch one another much.
func calls() []func(x *both) {
	return []func(x *both){
		func(x *both) { x.set(1, 0, 0) },
		func(x *both) { x.set(1, 2, 0) },
		func(x *both) { x.set(2, 1, 1) },
		func(x *both) { x.set(2, 3, 2) },
		func(x *both) { x.set(1, 0, 9) },
		func(x *both) { x.stop(1) },
		func(x *both) { x.stop(x.m.last) },
		func(x *both) { x.drop(1) },
		func(x *both) { x.pass(x.m.now) },
		func(x *both) { x.pass(x.m.now + 2) },
		func(x *both) { x.pass(x.m.now + 30) },
	}
}

func TestP17_1_EveryOrderOfFewCalls(t *testing.T) {
	list := calls()
	orders := 1
	for range 5 {
		orders *= len(list)
	}
	for order := range orders {
		x := begin(t)
		for n, rest := 0, order; n < 5; n, rest = n+1, rest/len(list) {
			list[rest%len(list)](x)
		}
		x.sees()
		x.pass(x.m.now + 4)
		x.sees()
	}
}

// anything does one call of any kind, at any arguments.
func (x *both) anything(rnd *rand.Rand, span int64) {
	x.t.Helper()
	now := x.m.now
	switch rnd.Intn(16) {
	case 0, 1, 2, 3, 4, 5:
		x.set(1+rnd.Intn(4), rnd.Int63n(span), pick(rnd, 0, 1, 2, 3, 1+rnd.Int63n(span)))
	case 6:
		x.set(pick(rnd, -1, 0, 1, 2, 3, math.MinInt, math.MaxInt), pick(rnd, append(wrongTimes(), 0, 1, latest, latest-now, latest-now+1)...), pick(rnd, append(wrongTimes(), 0, 0, 0, 1, latest)...))
	case 7:
		x.stop(x.m.last - rnd.Intn(40) + 2)
	case 8:
		if rnd.Intn(3) == 0 {
			x.drop(rnd.Intn(6))
		}
	case 9, 10, 11:
		x.pass(now + rnd.Int63n(span))
	case 12:
		x.pass(now + rnd.Int63n(3))
	case 13:
		x.pass(pick(rnd, append(wrongTimes(), now-1, now, 0)...))
	case 14:
		if at, ok := x.c.Next(); ok {
			x.pass(at)
		}
	case 15:
		for range rnd.Intn(70) {
			x.set(5, rnd.Int63n(span), rnd.Int63n(3)*span)
		}
	}
}

func TestP17_1_ManyCalls(t *testing.T) {
	for seed := range int64(60) {
		rnd := rand.New(rand.NewSource(seed))
		x := begin(t)
		span := []int64{4, 30, 1000, 1 << 37}[seed%4]
		if seed%3 == 0 {
			x.pass(latest - 10*span) // so that the end of time comes
		}
		for n := range 1500 {
			x.anything(rnd, span)
			if n%3 == 0 {
				x.sees()
			}
		}
		x.sees()
	}
}

// some are clocks that are the same, with timers that hang on a seed.
func some(seed int64, clocks ...*timer.Clock) {
	rnd := rand.New(rand.NewSource(seed))
	for range 1 + rnd.Intn(8) {
		owner, in, every := 1+rnd.Intn(3), rnd.Int63n(30), pick(rnd, 0, 0, 1+rnd.Int63n(30), 20+rnd.Int63n(30))
		for _, c := range clocks {
			c.Set(owner, in, every)
		}
	}
}

func TestP17_2_OnceForEachTime(t *testing.T) {
	for seed := range int64(500) {
		rnd := rand.New(rand.NewSource(seed))
		x := begin(t)
		var owners []int
		var from, every []int64
		for range 1 + rnd.Intn(12) {
			owners, from, every = append(owners, 1+rnd.Intn(3)), append(from, rnd.Int63n(20)), append(every, pick[int64](rnd, 0, 0, 1, 2, 3, 7))
			x.set(owners[len(owners)-1], from[len(from)-1], every[len(every)-1])
		}
		var got, want []timer.Due
		for x.c.Now() < 60 {
			got = append(got, x.pass(min(60, x.c.Now()+rnd.Int63n(9)))...)
		}
		for list := x.pass(60); len(list) > 0; list = x.pass(60) { // some of those that are due at 60 itself may be left
			got = append(got, list...)
		}
		for at := range int64(61) { // time by time, and at each time number by number
			for i := range owners {
				if at == from[i] || every[i] > 0 && at > from[i] && (at-from[i])%every[i] == 0 {
					want = append(want, timer.Due{Id: i + 1, Owner: owners[i], At: at})
				}
			}
		}
		if !slices.Equal(got, want) {
			t.Fatalf("seed %d: %v is told, not %v", seed, got, want)
		}
	}
}

func TestP17_2_AsLongAsItIsThere(t *testing.T) {
	for _, goes := range []func(c *timer.Clock){
		func(c *timer.Clock) { c.Stop(2) },
		func(c *timer.Clock) { c.Drop(7) },
	} {
		c := timer.New()
		c.Set(1, 4, 4)
		c.Set(7, 1, 2)
		c.Pass(6)
		goes(c)
		list, code := c.Pass(20)
		if want := []timer.Due{{Id: 1, Owner: 1, At: 8}, {Id: 1, Owner: 1, At: 12}, {Id: 1, Owner: 1, At: 16}, {Id: 1, Owner: 1, At: 20}}; code != 0 || !slices.Equal(list, want) {
			t.Errorf("behind it %v, not %v", list, want)
		}
	}
}

func TestP17_2_LeftIsToldLater(t *testing.T) {
	c := timer.New()
	c.Set(1, 10, 10)
	c.Set(2, 15, 10)
	var got []timer.Due
	parts := 0
	for c.Now() < 1000 {
		list, code := c.Pass(1000)
		if code != 0 || len(list) > most || len(list) < most && c.Now() != 1000 {
			t.Fatalf("Pass(1000) = %v, %d, the time is %d", list, code, c.Now())
		}
		got = append(got, list...)
		parts++
	}
	if len(got) != 199 || parts != 13 {
		t.Fatalf("%d are told in %d parts, not 199 in 13", len(got), parts)
	}
	for i, d := range got {
		if want := (timer.Due{Id: 1 + i%2, Owner: 1 + i%2, At: int64(10 + 5*i)}); d != want {
			t.Errorf("number %d is %v, not %v", i, d, want)
		}
	}
}

func TestP17_3_InParts(t *testing.T) {
	full := 0
	for seed := range int64(3000) {
		rnd := rand.New(rand.NewSource(seed))
		once, parts := timer.New(), timer.New()
		some(seed, once, parts)
		to := rnd.Int63n(60)
		want, _ := once.Pass(to)
		if len(want) == most && len(comesBesides(once, to)) > 0 {
			continue // more than that are due
		}
		var got []timer.Due
		for now := int64(0); ; now = min(to, now+rnd.Int63n(1+rnd.Int63n(30))) {
			list, code := parts.Pass(now)
			if code != 0 || len(list) < most && parts.Now() != now {
				t.Fatalf("seed %d: Pass(%d) = %v, %d, the time is %d", seed, now, list, code, parts.Now())
			}
			got = append(got, list...)
			if now == to {
				break
			}
		}
		if !slices.Equal(got, want) {
			t.Fatalf("seed %d: in parts %v, at once %v", seed, got, want)
		}
		if a, b := once.All(), parts.All(); !slices.Equal(a, b) {
			t.Fatalf("seed %d: what is left is %v in parts, %v at once", seed, b, a)
		}
		if len(want) == most {
			full++
		}
	}
	if full < 20 {
		t.Errorf("only %d times as many were due as may be", full)
	}
}

// comesBesides are the timers that are due up to a time still.
func comesBesides(c *timer.Clock, to int64) []timer.Due {
	return slices.DeleteFunc(c.All(), func(d timer.Due) bool { return d.At > to })
}

func TestP17_3_TimeByTime(t *testing.T) {
	for seed := range int64(300) {
		once, parts := timer.New(), timer.New()
		some(seed, once, parts)
		want, _ := once.Pass(12)
		if len(want) >= most {
			continue
		}
		var got []timer.Due
		for now := range int64(13) {
			list, _ := parts.Pass(now)
			got = append(got, list...)
		}
		if !slices.Equal(got, want) || told(once) != told(parts) {
			t.Fatalf("seed %d: time by time %v, and %s; at once %v, and %s", seed, got, told(parts), want, told(once))
		}
	}
}

func TestP17_4_AnswersAreNewMemory(t *testing.T) {
	rnd := rand.New(rand.NewSource(4))
	for seed := range int64(200) {
		c, other := timer.New(), timer.New()
		some(seed, c, other)
		for range 20 {
			all, also := c.All(), other.All()
			kept := slices.Clone(also)
			spoil(all, timer.Due{Id: 77, Owner: 78, At: -1})
			to := c.Now() + rnd.Int63n(9)
			list, _ := c.Pass(to)
			want, _ := other.Pass(to)
			if !slices.Equal(list, want) || told(c) != told(other) {
				t.Fatalf("behind answers that were written over: %v, and %s; not %v, and %s", list, told(c), want, told(other))
			}
			spoil(list, timer.Due{Id: 79, Owner: 80, At: -2})
			owner, in, every := 1+rnd.Intn(3), rnd.Int63n(9), rnd.Int63n(3)*9
			c.Set(owner, in, every)
			other.Set(owner, in, every)
			if !slices.Equal(also, kept) {
				t.Fatalf("what was answered has become %v, not %v", also, kept)
			}
		}
	}
}

func TestP17_4_ClocksAreApart(t *testing.T) {
	rnd := rand.New(rand.NewSource(44))
	x, y := begin(t), begin(t)
	for range 2000 {
		x.anything(rnd, 20)
		y.anything(rnd, 50)
		x.sees()
		y.sees()
	}
}
