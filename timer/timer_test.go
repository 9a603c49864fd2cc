package timer_test

import (
	"math"
	"slices"
	"testing"

	"casement/api"
	"casement/timer"
)

func TestP17_1_Examples(t *testing.T) {
	c := timer.New()
	for i, x := range [][3]int64{{1, 5, 0}, {2, 3, 2}} {
		if id, code := c.Set(int(x[0]), x[1], x[2]); id != i+1 || code != 0 {
			t.Errorf("Set(%v) = %d, %d", x, id, code)
		}
	}
	list, code := c.Pass(6)
	if want := []timer.Due{{Id: 2, Owner: 2, At: 3}, {Id: 1, Owner: 1, At: 5}, {Id: 2, Owner: 2, At: 5}}; code != 0 || !slices.Equal(list, want) {
		t.Errorf("Pass(6) = %v, %d, not %v", list, code, want)
	}
	if at, ok := c.Next(); at != 7 || !ok {
		t.Errorf("Next() = %d, %v", at, ok)
	}
}

func TestP17_1_New(t *testing.T) {
	c := timer.New()
	if got := told(c); got != "0 0 false" {
		t.Errorf("a new clock tells %q", got)
	}
	if list, code := c.Pass(0); len(list) != 0 || code != 0 {
		t.Errorf("Pass(0) = %v, %d", list, code)
	}
	if c.Stop(1) != 5 || c.Stop(0) != 5 || c.Drop(1) != 0 || c.Drop(0) != 0 {
		t.Error("a new clock has timers that can go")
	}
	for _, to := range []int64{3, 3, latest, latest} {
		if list, code := c.Pass(to); len(list) != 0 || code != 0 || c.Now() != to {
			t.Errorf("Pass(%d) of no timers = %v, %d, the time is %d", to, list, code, c.Now())
		}
	}
}

// refuses holds that Set answers an error and changes nothing.
func refuses(t *testing.T, c *timer.Clock, owner int, in, every int64, want api.Errno) {
	t.Helper()
	before := told(c)
	if id, code := c.Set(owner, in, every); id != 0 || code != want {
		t.Errorf("at %d Set(%d, %d, %d) = %d, %d, not 0, %d", c.Now(), owner, in, every, id, code, want)
	}
	if got := told(c); got != before {
		t.Errorf("Set(%d, %d, %d), refused, makes %q of %q", owner, in, every, got, before)
	}
}

func TestP17_1_SetIsRefused(t *testing.T) {
	for _, now := range []int64{0, 1, 1000, latest - 1, latest} {
		c := timer.New()
		c.Set(3, latest, 0)
		c.Pass(now)
		for _, owner := range wrongOwners() {
			refuses(t, c, owner, 0, 0, 1)
			refuses(t, c, owner, 1, 1, 1)
		}
		for _, v := range wrongTimes() {
			refuses(t, c, 1, v, 0, 1)
			refuses(t, c, 1, 0, v, 1)
			refuses(t, c, 1, v, v, 1)
		}
		for _, more := range []int64{1, 2, 1000, latest} {
			refuses(t, c, 1, latest-now+more, 0, 1)
			refuses(t, c, 1, latest-now+more, 5, 1)
		}
		// What was refused has no number.
		if id, code := c.Set(1, 0, 0); id != 2 || code != 0 {
			t.Errorf("at %d the second timer is %d, %d", now, id, code)
		}
	}
}

func TestP17_1_SetAtTheEdges(t *testing.T) {
	for _, now := range []int64{0, 1, 77, latest - 1, latest} {
		c := timer.New()
		c.Pass(now)
		for i, x := range []struct {
			owner     int
			in, every int64
		}{{1, 0, 0}, {2, 0, latest}, {math.MaxInt, latest - now, 0}, {math.MaxInt - 1, latest - now, latest}, {1, 0, 1}} {
			if id, code := c.Set(x.owner, x.in, x.every); id != i+1 || code != 0 {
				t.Errorf("at %d Set(%v) = %d, %d", now, x, id, code)
			}
			if all := c.All(); len(all) != i+1 || !slices.Contains(all, timer.Due{Id: i + 1, Owner: x.owner, At: now + x.in}) {
				t.Errorf("at %d Set(%v): All() = %v", now, x, all)
			}
		}
	}
}

func TestP17_1_AsManyAsMayBe(t *testing.T) {
	c := timer.New()
	for n := range room {
		if id, code := c.Set(n+1, int64(n%5), 0); id != n+1 || code != 0 {
			t.Fatalf("timer %d: %d, %d", n+1, id, code)
		}
	}
	refuses(t, c, 1, 0, 0, 3)
	refuses(t, c, 1, latest, latest, 3)
	// Of two errors it is the one that is named first.
	refuses(t, c, 0, 0, 0, 1)
	refuses(t, c, 1, -1, 0, 1)
	refuses(t, c, 1, 0, latest+1, 1)
	c.Pass(0)
	if got := len(c.All()); got != 51 {
		t.Errorf("%d are left, not 51", got)
	}
	for n := range 13 {
		if id, code := c.Set(1, 9, 9); id != room+1+n || code != 0 {
			t.Errorf("behind those that have gone: %d, %d", id, code)
		}
	}
	refuses(t, c, 1, 0, 0, 3)
	c.Stop(70)
	if id, code := c.Set(1, 9, 9); id != 78 || code != 0 {
		t.Errorf("behind a Stop: %d, %d", id, code)
	}
	refuses(t, c, 1, 0, 0, 3)
	if n := c.Drop(64); n != 1 {
		t.Errorf("Drop(64) = %d", n)
	}
	if id, code := c.Set(1, 9, 9); id != 79 || code != 0 {
		t.Errorf("behind a Drop: %d, %d", id, code)
	}
	refuses(t, c, 1, 0, 0, 3)
}

func TestP17_1_Stop(t *testing.T) {
	for gone := 1; gone <= 20; gone++ {
		x := begin(t)
		for n := range 20 {
			x.set(1+n%3, int64(n*7%20), int64(n%4))
		}
		for _, id := range []int{0, -1, -gone, 21, 22, math.MinInt, math.MaxInt, 1<<32 + gone} {
			x.stop(id)
		}
		x.sees()
		x.stop(gone)
		x.sees()
		x.stop(gone)
		x.sees()
		for to := range int64(20) {
			x.pass(to)
			x.sees()
		}
	}
}

func TestP17_1_WhatHasGoneCantBeStopped(t *testing.T) {
	c := timer.New()
	c.Set(1, 2, 0)
	c.Set(1, 2, 3)
	c.Pass(2)
	if c.Stop(1) != 5 || c.Stop(2) != 0 || c.Stop(2) != 5 {
		t.Error("behind Pass(2) the first one is there, or the second one isn't")
	}
	if id, code := c.Set(1, 2, 3); id != 3 || code != 0 {
		t.Errorf("a number is used again: %d, %d", id, code)
	}
}

func TestP17_1_Drop(t *testing.T) {
	for who := range 81 {
		x := begin(t)
		for n, rest := 0, who; n < 4; n, rest = n+1, rest/3 {
			x.set(1+rest%3, int64(9-n), 2)
			x.set(1+rest%3, int64(n), 0)
		}
		for _, owner := range append(wrongOwners(), 4, 1<<32+1, math.MaxInt) {
			x.drop(owner)
		}
		x.sees()
		for _, owner := range []int{2, 2, 1, 3, 1} {
			x.drop(owner)
			x.sees()
		}
		if at, ok := x.c.Next(); at != 0 || ok {
			t.Errorf("of none Next() = %d, %v", at, ok)
		}
	}
}

func TestP17_1_PassIsRefused(t *testing.T) {
	c := timer.New()
	c.Set(1, 9, 1)
	c.Set(2, 9, 0)
	for _, now := range []int64{0, 1, 9, 12} {
		c.Pass(now)
		before := told(c)
		for _, to := range append(wrongTimes(), now-1, now-2, now-latest) {
			if list, code := c.Pass(to); len(list) != 0 || code != 1 {
				t.Errorf("at %d Pass(%d) = %v, %d", now, to, list, code)
			}
			if got := told(c); got != before {
				t.Errorf("at %d Pass(%d), refused, makes %q of %q", now, to, got, before)
			}
		}
	}
}

func TestP17_1_DueNow(t *testing.T) {
	x := begin(t)
	x.pass(5)
	x.set(1, 0, 0)
	x.set(2, 0, 4)
	x.set(3, 1, 0)
	x.sees()
	if list := x.pass(5); len(list) != 2 {
		t.Errorf("what is due at the time itself: %v", list)
	}
	x.sees()
	if list := x.pass(5); len(list) != 0 {
		t.Errorf("it is told again: %v", list)
	}
	x.sees()
}

func TestP17_1_AtMostSoMany(t *testing.T) {
	for n := 14; n <= 20; n++ {
		x := begin(t)
		for i := range n {
			x.set(1, int64(100+i/2), 0)
		}
		list := x.pass(1000)
		want, now := n, int64(1000)
		if n >= most {
			want, now = most, 107
		}
		if len(list) != want || x.c.Now() != now || len(x.c.All()) != n-want {
			t.Errorf("of %d %d are told, the time is %d, %d are left", n, len(list), x.c.Now(), len(x.c.All()))
		}
		x.sees()
		x.pass(now)
		x.sees()
		if x.c.Now() != now {
			t.Errorf("of %d, another time: the time is %d", n, x.c.Now())
		}
		x.pass(now + 3)
		x.sees()
	}
}

func TestP17_1_ManyAtOneTime(t *testing.T) {
	x := begin(t)
	for i := range room {
		x.set(i+1, 8, int64(i%2)*3)
	}
	for n := range 4 {
		list := x.pass(10)
		if len(list) != most || list[0].Id != n*most+1 || list[most-1].Id != n*most+most || x.c.Now() != 8 {
			t.Errorf("part %d is %v, the time is %d", n, list, x.c.Now())
		}
		x.sees()
	}
	if list := x.pass(10); len(list) != 0 || x.c.Now() != 10 {
		t.Errorf("behind all of them: %v, the time is %d", list, x.c.Now())
	}
	x.sees()
}

func TestP17_1_AtTheEndOfTime(t *testing.T) {
	x := begin(t)
	x.pass(latest - 5)
	x.set(1, 2, 2)      // at -3 and -1
	x.set(2, 1, 4)      // at -4 and at the end itself
	x.set(3, 5, latest) // at the end
	x.set(4, 3, latest) // at -2
	x.set(5, 5, 0)      // at the end
	list := x.pass(latest)
	want := []timer.Due{{Id: 2, Owner: 2, At: latest - 4}, {Id: 1, Owner: 1, At: latest - 3}, {Id: 4, Owner: 4, At: latest - 2}, {Id: 1, Owner: 1, At: latest - 1}, {Id: 2, Owner: 2, At: latest}, {Id: 3, Owner: 3, At: latest}, {Id: 5, Owner: 5, At: latest}}
	if !slices.Equal(list, want) {
		t.Errorf("the last ones are %v, not %v", list, want)
	}
	x.sees()
	if got := told(x.c); got != "1099511627776 0 false" {
		t.Errorf("at the end the clock tells %q", got)
	}
	x.set(1, 0, 1)
	x.set(1, 1, 0)
	x.pass(latest)
	x.sees()
}

func TestP17_1_Order(t *testing.T) {
	x := begin(t)
	for _, in := range []int64{5, 3, 5, 1, 3, 0, 5, 1, latest, 2, 0} {
		x.set(1, in, 0)
	}
	var ids []int
	for _, d := range x.c.All() {
		ids = append(ids, d.Id)
	}
	if want := []int{6, 11, 4, 8, 10, 2, 5, 1, 3, 7, 9}; !slices.Equal(ids, want) {
		t.Errorf("All() has the numbers %v, not %v", ids, want)
	}
	for len(x.c.All()) > 0 {
		at, _ := x.c.Next()
		x.pass(at)
		x.sees()
	}
}
