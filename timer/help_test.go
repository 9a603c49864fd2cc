package timer_test

import (
	"cmp"
	"math"
	"math/rand"
	"slices"
	"strconv"
	"testing"

	"casement/api"
	"casement/timer"
)

// MaxTime, MaxQueue and MaxTimers as the document has them.
const (
	latest = int64(1099511627776)
	most   = 16
	room   = 64
)

// set is a model's timer: when it was first due, how often it was told since, and its period.
type set struct {
	id, owner int
	from      int64
	times     int64
	every     int64
}

// at is when it is due; false, if it never is again.
func (x set) at(times int64) (int64, bool) {
	at := x.from + times*x.every
	return at, at <= latest && (times == 0 || x.every > 0)
}

// model does what the chapter says on a list of timers, in the order of Set.
type model struct {
	now  int64
	last int
	list []set
}

func (m *model) set(owner int, in, every int64) (int, api.Errno) {
	for _, v := range []int64{in, every} {
		if v < 0 || v > latest {
			return 0, 1
		}
	}
	if owner <= 0 || in > latest-m.now {
		return 0, 1
	}
	if len(m.list) >= room {
		return 0, 3
	}
	m.last++
	m.list = append(m.list, set{id: m.last, owner: owner, from: m.now + in, every: every})
	return m.last, 0
}

func (m *model) stop(id int) api.Errno {
	for i, x := range m.list {
		if x.id == id {
			m.list = slices.Concat(m.list[:i], m.list[i+1:])
			return 0
		}
	}
	return 5
}

func (m *model) drop(owner int) (n int) {
	var left []set
	for _, x := range m.list {
		if x.owner == owner {
			n++
		} else {
			left = append(left, x)
		}
	}
	m.list = left
	return n
}

func sorted(list []timer.Due) []timer.Due {
	slices.SortFunc(list, func(a, b timer.Due) int { return cmp.Or(cmp.Compare(a.At, b.At), cmp.Compare(a.Id, b.Id)) })
	return list
}

// comes are the times up to one at which timers are due, of each timer no more than can be told at once.
func (m *model) comes(to int64) (list []timer.Due) {
	for _, x := range m.list {
		for n := range int64(most) {
			if at, ok := x.at(x.times + n); ok && at <= to {
				list = append(list, timer.Due{Id: x.id, Owner: x.owner, At: at})
			}
		}
	}
	return sorted(list)
}

func (m *model) pass(to int64) ([]timer.Due, api.Errno) {
	if to < m.now || to > latest {
		return nil, 1
	}
	list := m.comes(to)
	m.now = to
	if len(list) >= most {
		list = list[:most]
		m.now = list[most-1].At
	}
	var left []set
	for _, x := range m.list {
		for _, d := range list {
			if d.Id == x.id {
				x.times++
			}
		}
		if _, ok := x.at(x.times); ok {
			left = append(left, x)
		}
	}
	m.list = left
	return list, 0
}

func (m *model) all() (list []timer.Due) {
	for _, x := range m.list {
		at, _ := x.at(x.times)
		list = append(list, timer.Due{Id: x.id, Owner: x.owner, At: at})
	}
	return sorted(list)
}

// both lets a clock and its model do one call, and holds what they answer against each other.
type both struct {
	t *testing.T
	c *timer.Clock
	m *model
}

func begin(t *testing.T) *both {
	t.Helper()
	c := timer.New()
	if c == nil {
		t.Fatal("New() = nil")
	}
	return &both{t: t, c: c, m: &model{}}
}

func (x *both) set(owner int, in, every int64) {
	x.t.Helper()
	id, code := x.c.Set(owner, in, every)
	if want, wants := x.m.set(owner, in, every); id != want || code != wants {
		x.t.Fatalf("at %d Set(%d, %d, %d) = %d, %d, not %d, %d", x.m.now, owner, in, every, id, code, want, wants)
	}
}

func (x *both) stop(id int) {
	x.t.Helper()
	if code, want := x.c.Stop(id), x.m.stop(id); code != want {
		x.t.Fatalf("Stop(%d) = %d, not %d", id, code, want)
	}
}

func (x *both) drop(owner int) {
	x.t.Helper()
	if n, want := x.c.Drop(owner), x.m.drop(owner); n != want {
		x.t.Fatalf("Drop(%d) = %d, not %d", owner, n, want)
	}
}

func (x *both) pass(to int64) []timer.Due {
	x.t.Helper()
	list, code := x.c.Pass(to)
	if want, wants := x.m.pass(to); code != wants || !slices.Equal(list, want) {
		x.t.Fatalf("Pass(%d) = %v, %d, not %v, %d", to, list, code, want, wants)
	}
	return list
}

// sees holds what the calls tell that change nothing to the model.
func (x *both) sees() {
	x.t.Helper()
	if x.c.Now() != x.m.now {
		x.t.Fatalf("Now() = %d, not %d", x.c.Now(), x.m.now)
	}
	want := x.m.all()
	if got := x.c.All(); !slices.Equal(got, want) {
		x.t.Fatalf("All() = %v, not %v", got, want)
	}
	next, there := int64(0), len(want) > 0
	if there {
		next = want[0].At
	}
	if at, ok := x.c.Next(); at != next || ok != there {
		x.t.Fatalf("Next() = %d, %v, not %d, %v", at, ok, next, there)
	}
}

// told is all that a clock tells, as a text.
func told(c *timer.Clock) string {
	at, ok := c.Next()
	text := strconv.FormatInt(c.Now(), 10) + " " + strconv.FormatInt(at, 10) + " " + strconv.FormatBool(ok)
	for _, d := range c.All() {
		text += " " + strconv.Itoa(d.Id) + ":" + strconv.Itoa(d.Owner) + ":" + strconv.FormatInt(d.At, 10)
	}
	return text
}

// wrongTimes are numbers that are no times.
func wrongTimes() []int64 {
	return []int64{-1, -2, -5, -latest, -latest - 1, math.MinInt64, math.MinInt64 + 1, latest + 1, latest + 2, latest * 2, 1 << 62, math.MaxInt64 - latest, math.MaxInt64 - latest + 1, math.MaxInt64 - 1, math.MaxInt64}
}

// wrongOwners own nothing.
func wrongOwners() []int { return []int{0, -1, -2, -1 << 32, math.MinInt, math.MinInt + 1} }

func pick[T any](rnd *rand.Rand, of ...T) T { return of[rnd.Intn(len(of))] }

// spoil writes over a list and its spare room.
func spoil[T any](list []T, v T) {
	list = list[:cap(list)]
	for i := range list {
		list[i] = v
	}
}
