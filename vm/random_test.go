package vm_test

import (
	"math/rand"
	"slices"
	"testing"

	"casement/api"
	"casement/vm"
)

// someNumber is one that a program may be begun with or answered.
func someNumber(rnd *rand.Rand) int64 {
	return pick(rnd, odd()[rnd.Intn(len(odd()))], 0, 1, 2, 9, int64(rnd.Intn(1030)), int64(rnd.Uint64()))
}

// watch is a machine beside what has happened to it.
type watch struct {
	t    *testing.T
	x    *vm.Machine
	past history
	now  vm.Told // what was told last
	k    *model
}

// run runs the machine, and holds what it tells and its memory to the model.
func (w *watch) run(fuel int) {
	w.t.Helper()
	got := w.x.Run(fuel)
	w.now, w.k = w.past.run(fuel)
	if !sameTold(got, w.now) {
		w.t.Fatalf("%v, begun with %v, answered %v: Run(%d) at %d = %v, not %v", w.past.m, w.past.events, w.past.answers, fuel, w.past.used-w.now.Used, got, w.now)
	}
	if memory, ok := w.x.Memory(0, int64(w.past.m.Mem)); !ok || !slices.Equal(memory, w.k.memory) {
		w.t.Fatalf("%v, begun with %v, answered %v: at %d the memory is %v, not %v", w.past.m, w.past.events, w.past.answers, w.past.used, memory, w.k.memory)
	}
	if w.now.Kind == vm.Done {
		w.now = vm.Told{}
	}
	if w.x.Busy() != (w.now.Kind == vm.Fuel || w.now.Kind == vm.Asks) {
		w.t.Fatalf("%v: behind %v Busy is %v", w.past.m, w.now, w.x.Busy())
	}
}

// begin and reply are done where they may be, and refused elsewhere.
func (w *watch) begin(e [3]int64) {
	w.t.Helper()
	want := api.Errno(1)
	if w.now.Kind == vm.Idle {
		want = 0
		w.past.events = append(w.past.events, e)
		w.now.Kind = vm.Fuel
	}
	if got := w.x.Begin(e[0], e[1], e[2]); got != want {
		w.t.Fatalf("%v: Begin behind %v = %d, not %d", w.past.m, w.now, got, want)
	}
}

func (w *watch) reply(v int64) {
	w.t.Helper()
	want := api.Errno(1)
	if w.now.Kind == vm.Asks {
		want = 0
		w.past.answers = append(w.past.answers, v)
		w.now = vm.Told{Kind: vm.Fuel}
	}
	if got := w.x.Reply(v); got != want {
		w.t.Fatalf("%v: Reply behind %v = %d, not %d", w.past.m, w.now, got, want)
	}
}

func TestP14_1_RandomModules(t *testing.T) {
	rnd := rand.New(rand.NewSource(1))
	kinds, traps, ran := map[int]int{}, map[int]int{}, map[int]int{}
	deep := 0
	for range 4000 {
		w := watch{t: t, past: history{m: someModule(rnd)}}
		w.x = machine(t, w.past.m)
		for range 5 + rnd.Intn(60) {
			switch rnd.Intn(5) {
			case 0:
				w.begin([3]int64{someNumber(rnd), someNumber(rnd), someNumber(rnd)})
			case 1:
				w.reply(someNumber(rnd))
			default:
				w.run(pick(rnd, 0, 1, 2, 3, 10, 50, 400))
				kinds[w.now.Kind]++
				traps[w.now.Trap]++
				deep = max(deep, w.k.deepest)
			}
		}
		if w.k != nil {
			for op, n := range w.k.ran {
				ran[op] += n
			}
		}
	}
	for op := range 29 {
		if ran[op] < 200 {
			t.Errorf("few of op %d: %v", op, ran)
		}
	}
	for kind := range 5 {
		if kind != vm.Done && kinds[kind] < 1000 || kind > 0 && traps[kind] < 200 || deep < 16 {
			t.Errorf("few of kind or trap %d: %v, %v, %d", kind, kinds, traps, deep)
		}
	}
}

// tale is all that is told of some events, but for Fuel; of Used it has all together.
type tale struct {
	told []vm.Told
	used int
}

// tell tells of events and answers, with fuel parted as a function says, as long as there is some. For an event that ends
// within the fuel there is fuel for the next one.
func tell(x *vm.Machine, events [][3]int64, answers []int64, fuel int, part func() int) (s tale) {
	for _, e := range events {
		if x.Begin(e[0], e[1], e[2]) != api.OK {
			return s
		}
		for x.Busy() && s.used < fuel {
			told := x.Run(min(part(), fuel-s.used))
			s.used += told.Used
			told.Used = 0
			if told.Kind == vm.Fuel {
				continue
			}
			s.told = append(s.told, told)
			if told.Kind == vm.Asks && len(answers) > 0 {
				x.Reply(answers[0])
				answers = answers[1:]
			} else if told.Kind == vm.Asks {
				return s
			}
		}
	}
	return s
}

func sameTale(a, b tale) bool { return a.used == b.used && slices.EqualFunc(a.told, b.told, sameTold) }

func TestP14_2_FuelInParts(t *testing.T) {
	rnd := rand.New(rand.NewSource(2))
	long := 0
	for range 4000 {
		m := someModule(rnd)
		var events [][3]int64
		var answers []int64
		for range 6 {
			events = append(events, [3]int64{someNumber(rnd), someNumber(rnd), someNumber(rnd)})
			answers = append(answers, someNumber(rnd), someNumber(rnd))
		}
		fuel := pick(rnd, 20, 300, 3000)
		whole := machine(t, m)
		want := tell(whole, events, answers, fuel, func() int { return 5000 })
		memory, _ := whole.Memory(0, int64(m.Mem))
		if len(want.told) > 5 {
			long++
		}
		for n, part := range []func() int{
			func() int { return 1 },
			func() int { return 3 },
			func() int { return rnd.Intn(8) },
			func() int { return pick(rnd, -1, 0, 1, 2, 40, 9999) },
		} {
			x := machine(t, m)
			if got := tell(x, events, answers, fuel, part); !sameTale(got, want) {
				t.Fatalf("%v, begun with %v, answered %v: in parts %d it tells %v, not %v", m, events, answers, n, got, want)
			}
			holds(t, "behind fuel in parts", x, memory)
			if x.Busy() != whole.Busy() {
				t.Fatalf("%v: behind fuel in parts Busy is %v", m, x.Busy())
			}
		}
	}
	if long < 500 {
		t.Errorf("only %d modules tell much", long)
	}
}

func TestP14_2_EveryCut(t *testing.T) {
	rnd := rand.New(rand.NewSource(3))
	for range 300 {
		m := someModule(rnd)
		e := [3]int64{someNumber(rnd), someNumber(rnd), someNumber(rnd)}
		whole := machine(t, m)
		begins(t, whole, e[0], e[1], e[2])
		want := whole.Run(60)
		for cut := range want.Used {
			x := machine(t, m)
			begins(t, x, e[0], e[1], e[2])
			tells(t, "up to a cut", x, cut, onward(cut))
			rest := want
			rest.Used -= cut
			tells(t, "behind a cut", x, 60-cut, rest)
		}
	}
}

func TestP14_3_MachinesShareNothing(t *testing.T) {
	rnd := rand.New(rand.NewSource(4))
	for range 2000 {
		m := someModule(rnd)
		both := [2]watch{}
		for n := range both {
			both[n] = watch{t: t, past: history{m: m}, x: machine(t, m)}
		}
		for range 40 {
			w := &both[rnd.Intn(2)]
			switch rnd.Intn(4) {
			case 0:
				w.begin([3]int64{someNumber(rnd), someNumber(rnd), someNumber(rnd)})
			case 1:
				w.reply(someNumber(rnd))
			default:
				w.run(rnd.Intn(20))
			}
		}
	}
}

func TestP14_3_ModulesAreNeitherChangedNorKept(t *testing.T) {
	rnd := rand.New(rand.NewSource(5))
	for range 1500 {
		m := someModule(rnd)
		before := copied(m)
		// The memory behind the lists' lengths isn't the machine's either.
		m.Data = append(m.Data, make([]byte, 1024)...)[:len(m.Data)]
		m.Funcs = append(m.Funcs, fn(7, 7, 7))[:len(m.Funcs)]
		for i, f := range m.Funcs {
			m.Funcs[i].Code = append(f.Code, ins(77, 77))[:len(f.Code)]
		}
		w := watch{t: t, past: history{m: before}, x: machine(t, m)}
		act := func(n int) {
			for range n {
				w.begin([3]int64{someNumber(rnd), someNumber(rnd), someNumber(rnd)})
				w.run(rnd.Intn(30))
				w.reply(someNumber(rnd))
			}
		}
		act(rnd.Intn(10))
		if !same(m, before) || slices.ContainsFunc(m.Data[len(m.Data):len(m.Data)+1024], func(c byte) bool { return c != 0 }) || !sameFunc(m.Funcs[:len(m.Funcs)+1][len(m.Funcs)], fn(7, 7, 7)) {
			t.Fatalf("a module that is carried out becomes %v, not %v", m, before)
		}
		for _, f := range m.Funcs {
			if f.Code[:len(f.Code)+1][len(f.Code)] != ins(77, 77) {
				t.Fatal("what is behind a function's code is another")
			}
		}
		spoilModule(m)
		act(15)
	}
	// Of a module with a flaw nothing is another either.
	m := start(ins(5, 9), do(27))
	if _, code := vm.New(m); code != 130 || !same(m, start(ins(5, 9), do(27))) {
		t.Errorf("a module with a flaw becomes %v", m)
	}
}

func TestP14_3_AnswersAreNew(t *testing.T) {
	rnd := rand.New(rand.NewSource(6))
	asked := 0
	for range 2000 {
		w := watch{t: t, past: history{m: someModule(rnd)}}
		w.x = machine(t, w.past.m)
		for range 10 {
			w.begin([3]int64{someNumber(rnd), someNumber(rnd), someNumber(rnd)})
			w.run(rnd.Intn(60))
			if w.now.Kind != vm.Asks {
				continue
			}
			asked++
			first, second := w.x.Run(0), w.x.Run(5)
			spoil(first.Args, 99)
			if !slices.Equal(second.Args, w.now.Args) {
				t.Fatal("two answers share their args")
			}
			spoil(second.Args, 98)
			w.run(9)
			w.reply(someNumber(rnd))
			// Nor do they lie on the stack.
			spoil(first.Args, 97)
			spoil(second.Args, 96)
			w.run(rnd.Intn(9))
		}
	}
	if asked < 1000 {
		t.Errorf("only %d times asked", asked)
	}
}

func TestP14_3_MemoryIsNew(t *testing.T) {
	rnd := rand.New(rand.NewSource(7))
	for range 1000 {
		w := watch{t: t, past: history{m: someModule(rnd)}}
		w.x = machine(t, w.past.m)
		for range 10 {
			at := rnd.Intn(w.past.m.Mem + 1)
			n := rnd.Intn(w.past.m.Mem + 1 - at)
			first, _ := w.x.Memory(int64(at), int64(n))
			want := slices.Clone(first)
			second, _ := w.x.Memory(int64(at), int64(n))
			spoil(first, 99)
			if !slices.Equal(second, want) {
				t.Fatal("two answers share memory")
			}
			w.begin([3]int64{someNumber(rnd), someNumber(rnd), someNumber(rnd)})
			w.run(rnd.Intn(60))
			w.reply(someNumber(rnd))
			if !slices.Equal(second, want) {
				t.Fatal("what was answered is another behind a store")
			}
		}
	}
}
