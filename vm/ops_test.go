package vm_test

import (
	"math"
	"math/rand"
	"slices"
	"strconv"
	"testing"

	"casement/api"
	. "casement/module"
	"casement/vm"
)

func TestP14_1_Numbers(t *testing.T) {
	if !slices.Equal([]int{vm.Idle, vm.Done, vm.Fuel, vm.Asks, vm.Dead}, []int{0, 1, 2, 3, 4}) {
		t.Error("the kinds have other numbers")
	}
	if !slices.Equal([]int{vm.Zero, vm.Bounds, vm.Calls, vm.Halt}, []int{1, 2, 3, 4}) {
		t.Error("the traps have other numbers")
	}
}

func TestP14_1_Examples(t *testing.T) {
	x := begun(t, start(ins(Push, 2), ins(Push, 3), do(Mul), ins(Set, 0), do(Ret)))
	tells(t, "a product", x, 9, done(5))
	x = begun(t, start(ins(Push, 1), ins(Push, 0), do(Div), do(Drop), do(Ret)))
	tells(t, "a division by 0", x, 9, dead(1, 3))
	x = begun(t, start(ins(Host, 10), do(Drop), do(Ret)))
	answered(t, "a host call", x, asks(1, 10), 5)
	tells(t, "behind its answer", x, 9, done(2))
}

func TestP14_1_StackOps(t *testing.T) {
	gives(t, "nothing", nil)
	gives(t, "Nop", []api.Ins{do(Nop), do(Nop)})
	gives(t, "Nop between", []api.Ins{ins(Push, 4), do(Nop)}, 4)
	for _, n := range odd() {
		gives(t, "Push", pushes(n), n)
		gives(t, "Push behind Push", pushes(n, 5), n, 5)
		gives(t, "Drop", []api.Ins{ins(Push, 8), ins(Push, n), do(Drop)}, 8)
		gives(t, "Dup", []api.Ins{ins(Push, 8), ins(Push, n), do(Dup)}, 8, n, n)
		gives(t, "Swap", []api.Ins{ins(Push, 8), ins(Push, n), ins(Push, 9), do(Swap)}, 8, 9, n)
		gives(t, "Not", []api.Ins{ins(Push, 8), ins(Push, n), do(Not)}, 8, modelTruth(n == 0))
		gives(t, "Not twice", []api.Ins{ins(Push, n), do(Not), do(Not)}, modelTruth(n != 0))
	}
	var all []int64
	for n := range int64(64) {
		all = append(all, 3*n+1)
	}
	// A full stack, of which every number is there still.
	gives(t, "64 numbers", pushes(all[:63]...), all[:63]...)
	gives(t, "64 numbers, of which one goes", append(pushes(all...), do(Drop)), all[:63]...)
	gives(t, "64 numbers, added", append(pushes(all...), times(63, do(Add))...), 64+3*63*32)
	gives(t, "63 numbers and one of them twice", append(pushes(all[:63]...), do(Dup), do(Sub)), append(slices.Clone(all[:62]), 0)...)
}

func TestP14_1_TwoNumbers(t *testing.T) {
	const low, high = math.MinInt64, math.MaxInt64
	for _, x := range []struct {
		what    string
		op      int
		a, b, v int64
	}{
		{"Add", Add, 2, 3, 5}, {"Add", Add, high, 1, low}, {"Add", Add, low, -1, high}, {"Add", Add, low, low, 0}, {"Add", Add, high, high, -2},
		{"Sub", Sub, 2, 3, -1}, {"Sub", Sub, low, 1, high}, {"Sub", Sub, 0, low, low}, {"Sub", Sub, high, -1, low},
		{"Mul", Mul, -2, 3, -6}, {"Mul", Mul, low, -1, low}, {"Mul", Mul, 1 << 32, 1 << 32, 0}, {"Mul", Mul, high, high, 1}, {"Mul", Mul, 1<<33 + 1, 1<<33 + 1, 1<<34 + 1}, {"Mul", Mul, 1<<53 + 1, 3, 3<<53 + 3},
		{"Div", Div, 7, 2, 3}, {"Div", Div, -7, 2, -3}, {"Div", Div, 7, -2, -3}, {"Div", Div, -7, -2, 3}, {"Div", Div, low, -1, low}, {"Div", Div, low, 1, low}, {"Div", Div, high, -1, -high}, {"Div", Div, 0, 5, 0}, {"Div", Div, 1, low, 0}, {"Div", Div, high, high, 1}, {"Div", Div, high, 3, high / 3},
		{"Mod", Mod, 7, 2, 1}, {"Mod", Mod, -7, 2, -1}, {"Mod", Mod, 7, -2, 1}, {"Mod", Mod, -7, -2, -1}, {"Mod", Mod, low, -1, 0}, {"Mod", Mod, low, 2, 0}, {"Mod", Mod, high, low, high}, {"Mod", Mod, low, high, -1}, {"Mod", Mod, 0, 3, 0},
		{"And", And, 12, 10, 8}, {"And", And, -1, 77, 77}, {"And", And, low, high, 0}, {"Or", Or, 12, 10, 14}, {"Or", Or, low, high, -1}, {"Or", Or, 0, 5, 5}, {"Xor", Xor, 12, 10, 6}, {"Xor", Xor, -1, 77, -78}, {"Xor", Xor, 5, 5, 0},
		{"Shl", Shl, 1, 3, 8}, {"Shl", Shl, 1, 63, low}, {"Shl", Shl, 1, 64, 1}, {"Shl", Shl, 1, 65, 2}, {"Shl", Shl, 1, -1, low}, {"Shl", Shl, 3, -64, 3}, {"Shl", Shl, -1, 4, -16}, {"Shl", Shl, 5, low, 5}, {"Shl", Shl, 5, 1 << 40, 5}, {"Shl", Shl, 1, -63, 2},
		{"Shr", Shr, 8, 3, 1}, {"Shr", Shr, -8, 3, -1}, {"Shr", Shr, -1, 63, -1}, {"Shr", Shr, low, 63, -1}, {"Shr", Shr, high, 63, 0}, {"Shr", Shr, 9, 64, 9}, {"Shr", Shr, 8, 66, 2}, {"Shr", Shr, -9, 1, -5}, {"Shr", Shr, 9, -64, 9}, {"Shr", Shr, high, -1, 0}, {"Shr", Shr, 5, low, 5},
		{"Eq", Eq, 4, 4, 1}, {"Eq", Eq, 4, 5, 0}, {"Eq", Eq, low, high, 0}, {"Eq", Eq, 1 << 32, 0, 0}, {"Eq", Eq, low, low, 1},
		{"Lt", Lt, 4, 5, 1}, {"Lt", Lt, 5, 4, 0}, {"Lt", Lt, 4, 4, 0}, {"Lt", Lt, -1, 0, 1}, {"Lt", Lt, 0, -1, 0}, {"Lt", Lt, low, high, 1}, {"Lt", Lt, high, low, 0}, {"Lt", Lt, 1 << 40, 1<<40 + 1, 1},
	} {
		gives(t, x.what, append(pushes(77, x.a, x.b), do(x.op)), 77, x.v)
	}
}

func TestP14_1_TwoNumbersAsTheModel(t *testing.T) {
	rnd := rand.New(rand.NewSource(1))
	pairs := [][2]int64{}
	for _, a := range odd() {
		for _, b := range odd() {
			pairs = append(pairs, [2]int64{a, b})
		}
	}
	for range 1000 {
		pairs = append(pairs, [2]int64{int64(rnd.Uint64()) >> rnd.Intn(64), int64(rnd.Uint64()) >> rnd.Intn(64)})
	}
	for _, p := range pairs {
		for op := Add; op <= Lt; op++ {
			if p[1] != 0 || op != Div && op != Mod {
				gives(t, "op "+strconv.Itoa(op), append(pushes(p[:]...), do(op)), modelResult(op, p[0], p[1]))
			}
		}
	}
}

func TestP14_1_Zero(t *testing.T) {
	for _, op := range []int{Div, Mod} {
		for _, a := range odd() {
			x := begun(t, start(join(pushes(a, 0), []api.Ins{do(op), do(Drop), do(Ret)})...))
			tells(t, "by 0", x, 2, onward(2))
			tells(t, "by 0", x, 9, dead(1, 1))
		}
	}
}

// filled is a module that has so much memory, of which all but the last byte are data.
func filled(size int, code ...api.Ins) api.Module {
	m := mod(size, fn(3, 0, 1, code...))
	for i := range size - 1 {
		m.Data = append(m.Data, byte(200+3*i))
	}
	return m
}

// little is a number's bytes, the least one first.
func little(v int64) (b []byte) {
	for i := range 8 {
		b = append(b, byte(uint64(v)>>(8*i)))
	}
	return b
}

// places are addresses in and about a memory.
func places(size int) []int64 {
	list := append(odd(), int64(size)+1<<32, int64(size)+1<<31, math.MaxInt64-7, math.MaxInt64-8, math.MinInt64+7)
	for at := -10; at < size+10; at++ {
		if at < 20 || at > size-20 {
			list = append(list, int64(at))
		}
	}
	return list
}

func TestP14_1_Load(t *testing.T) {
	for _, size := range []int{0, 1, 2, 7, 8, 9, 20, 255, 256, 257, 1023, 1024} {
		for _, at := range places(size) {
			for _, op := range []int{Load, Load8} {
				width := int64(map[int]int{Load: 1, Load8: 8}[op])
				m := filled(size, ins(Push, at), do(op))
				if at < 0 || at >= int64(size) || at+width > int64(size) {
					m.Funcs[0].Code = append(m.Funcs[0].Code, do(Drop), do(Ret))
					tells(t, "a load of what isn't there", begun(t, m), 9, dead(2, 2))
					continue
				}
				memory := make([]byte, size)
				copy(memory, m.Data)
				want := int64(memory[at])
				if op == Load8 {
					want = 0
					for i := range int64(8) {
						want += int64(memory[at+i]) << (8 * i)
					}
				}
				leaves(t, "a load at "+strconv.FormatInt(at, 10), m, 2, want)
			}
		}
	}
	m := start(ins(Push, 0), do(Load8))
	m.Data = []byte{1, 2, 3, 4, 5, 6, 7, 0x88, 9}
	leaves(t, "eight bytes", m, 2, -0x77f8f9fafbfcfdff)
	m.Data = []byte{255}
	leaves(t, "a byte of 255, and zeros", m, 2, 255)
	m.Funcs[0].Code[1].Op = Load
	leaves(t, "a byte of 255", m, 2, 255)
}

func TestP14_1_Store(t *testing.T) {
	for _, size := range []int{0, 1, 2, 7, 8, 9, 20, 255, 256, 257, 1023, 1024} {
		for n, at := range places(size) {
			for _, op := range []int{Store, Store8} {
				width := int64(map[int]int{Store: 1, Store8: 8}[op])
				v := append(odd(), 0x0102030405060708, -0x0102030405060708)[n%(len(odd())+2)]
				m := filled(size, ins(Push, 3), ins(Push, at), ins(Push, v), do(op), do(Drop), do(Ret))
				x := begun(t, m)
				want := make([]byte, size)
				copy(want, m.Data)
				if at < 0 || at >= int64(size) || at+width > int64(size) {
					tells(t, "a store where nothing is", x, 9, dead(2, 4))
				} else {
					copy(want[at:], little(v)[:width])
					tells(t, "a store", x, 9, done(6))
				}
				// Where it traps, nothing is stored.
				holds(t, "behind a store", x, want)
			}
		}
	}
	for _, v := range odd() {
		for at := range int64(13) {
			m := filled(20, ins(Push, at), ins(Push, v), do(Store8), ins(Push, at), do(Load8))
			leaves(t, "stored and loaded", m, 5, v)
		}
	}
}

func TestP14_1_Locals(t *testing.T) {
	m := mod(0, fn(3, 0, 13))
	for n := range int64(16) {
		m.Funcs[0].Code = []api.Ins{ins(Get, n)}
		want := []int64{1, 2, 3, 0, 0, 0, 0, 0, 0, 0, 0, 0, 0, 0, 0, 0}
		leaves(t, "a local", m, 1, want[n])
		want[n] = -5
		m.Funcs[0].Code = pushes(8, -5)
		m.Funcs[0].Code = append(m.Funcs[0].Code, ins(Set, n))
		for n := range int64(16) {
			m.Funcs[0].Code = append(m.Funcs[0].Code, ins(Get, n))
		}
		leaves(t, "a local that is set", m, 19, append([]int64{8}, want...)...)
	}
	for _, v := range odd() {
		gives(t, "set and got", []api.Ins{ins(Push, v), ins(Set, 3), ins(Get, 3), ins(Get, 3)}, v, v)
	}
}

func TestP14_1_LocalsOfEachBeginning(t *testing.T) {
	code := []api.Ins{}
	for n := range int64(4) {
		code = append(code, ins(Get, n), ins(Push, 50+n), ins(Set, n))
	}
	code = append(code, ins(Host, 11), do(Drop), ins(Host, 11), do(Drop), do(Drop), do(Ret))
	code = slices.Insert(code, 3, ins(Get, 0))
	m := start(code...) // log of 3 and local 3, then of 50 and 2
	x := machine(t, m)
	for _, e := range [][3]int64{{1, 2, 3}, {math.MinInt64, math.MaxInt64, -1}, {0, 0, 0}, {9, 8, 7}} {
		begins(t, x, e[0], e[1], e[2])
		answered(t, "local 3 is 0 at each beginning", x, asks(14, 11, e[2], 0), 1)
		answered(t, "the others are what it begins with", x, asks(2, 11, 50, e[1]), 1)
		tells(t, "the end", x, 9, done(3))
	}
}

func TestP14_1_Jumps(t *testing.T) {
	gives(t, "a jump ahead", nil)
	leaves(t, "a jump ahead", start(ins(Push, 1), ins(Jump, 3), do(Trap), ins(Push, 2)), 3, 1, 2)
	leaves(t, "a jump to the next one", start(ins(Push, 1), ins(Jump, 2), ins(Push, 2)), 3, 1, 2)
	leaves(t, "a jump back", start(ins(Jump, 3), ins(Push, 7), ins(Jump, 4), ins(Jump, 1)), 4, 7)
	for _, v := range odd() {
		ahead := start(ins(Push, 8), ins(Push, v), ins(JumpIf, 5), ins(Push, 1), ins(Set, 0), ins(Get, 0))
		if v == 0 {
			ahead.Funcs[0].Code[3].N = 60
			leaves(t, "a jump that isn't taken", ahead, 6, 8, 60)
		} else {
			leaves(t, "a jump that is taken", ahead, 4, 8, 1)
		}
	}
	// Local 0 goes from 1 to 10.
	leaves(t, "a loop", start(ins(Get, 0), ins(Push, 1), do(Add), do(Dup), ins(Set, 0), ins(Push, 10), do(Lt), ins(JumpIf, 0), ins(Get, 0)), 9*8+1, 10)
	x := begun(t, start(ins(Jump, 0)))
	tells(t, "a jump to itself", x, 5000, onward(5000))
	x = begun(t, start(ins(Push, 1), ins(JumpIf, 0), do(Ret)))
	tells(t, "a loop without an end", x, 5000, onward(5000))
	code := append(times(398, do(Nop)), ins(Jump, 399), ins(Jump, 0))
	tells(t, "400 instructions", begun(t, start(code...)), 5000, onward(5000))
}
