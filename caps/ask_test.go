package caps_test

import (
	"bytes"
	"math"
	"math/rand"
	"slices"
	"testing"

	"casement/api"
	"casement/caps"
)

func TestP15_1_Examples(t *testing.T) {
	holds(t, 1, 0, []int64{2, 3, 'a'}, nil, caps.Call{N: 0, X: 2, Y: 3, Rune: 'a'}, 0)
	refused(t, 1, 5, []int64{1, 0, 4}, nil, caps.NotAllowed)
	refused(t, 4, 5, []int64{0, 0, 4}, nil, caps.BadArg)
}

func TestP15_1_Calls(t *testing.T) {
	memory := twelve()
	for _, x := range []struct {
		have int
		args []int64
		call caps.Call
	}{
		{caps.Draw, []int64{199, 5, 0xfffd}, caps.Call{N: 0, X: 199, Y: 5, Rune: 0xfffd}},
		{caps.Draw, []int64{3, 1<<24 + 66051, 5}, caps.Call{N: 1, Style: api.Style{Fg: 3, Bg: 1<<24 + 66051, Attr: 5}}},
		{caps.Draw, nil, caps.Call{N: 2}},
		{caps.Watch, []int64{8}, caps.Call{N: 3, Kind: 8}},
		{caps.Watch, []int64{1}, caps.Call{N: 4, Kind: 1}},
		{caps.Type, []int64{1 << 40, 2, 3}, caps.Call{N: 5, Pane: 1 << 40, Bytes: []byte("cde")}},
		{caps.Focus, []int64{9}, caps.Call{N: 6, Pane: 9}},
		{caps.Open, nil, caps.Call{N: 7}},
		{caps.Open, []int64{1}, caps.Call{N: 8, Pane: 1}},
		{caps.Look, []int64{4, 5, 199}, caps.Call{N: 9, Pane: 4, X: 5, Y: 199}},
		{0, nil, caps.Call{N: 10}},
		{0, []int64{0, 12}, caps.Call{N: 11, Bytes: []byte("abcdefghijkl")}},
	} {
		holds(t, x.have, int64(x.call.N), x.args, memory, x.call, 0)
		holds(t, 63, int64(x.call.N), x.args, memory, x.call, 0)
	}
}

func TestP15_1_NoSuchCall(t *testing.T) {
	for _, n := range wrongCalls() {
		for _, have := range []int{0, 63, -1} {
			for _, args := range [][]int64{nil, {}, {1}, {1, 0}, {2, 3, 'a'}, {1, 2, 3, 4}} {
				refused(t, have, n, args, twelve(), caps.No)
			}
		}
	}
}

func TestP15_1_HowManyArguments(t *testing.T) {
	takes := []int{3, 3, 0, 1, 1, 3, 1, 0, 1, 3, 0, 2}
	for n, want := range takes {
		args := right(int64(n))
		for some := range 40 {
			list := append(slices.Clone(args), make([]int64, 40)...)[:some]
			if some == want {
				like(t, 63, int64(n), list, twelve())
				if _, out := caps.Ask(63, int64(n), list, twelve()); out != 0 {
					t.Errorf("call %d, right: %d", n, out)
				}
				continue
			}
			refused(t, 63, int64(n), list, twelve(), caps.No)
			refused(t, 0, int64(n), list, twelve(), caps.No)
		}
		refused(t, 63, int64(n), make([]int64, 1<<16+want), twelve(), caps.No)
	}
}

func TestP15_1_EveryCapability(t *testing.T) {
	for n, call := range hostCalls() {
		args := right(int64(n))
		for have := range 64 {
			like(t, have, int64(n), args, twelve())
			if _, out := caps.Ask(have, int64(n), args, twelve()); (out == 0) != has(have, call.needs) || out != 0 && out != caps.NotAllowed {
				t.Errorf("Ask(%d, %d) = %d", have, n, out)
			}
		}
		for _, have := range oddHaves() {
			_, out := caps.Ask(have, int64(n), args, twelve())
			_, want := caps.Ask(known(have), int64(n), args, twelve())
			if out != want {
				t.Errorf("Ask(%d, %d) = %d, not %d as of %d", have, n, out, want, known(have))
			}
		}
	}
}

// one holds a call, of which one argument is another, to what is answered.
func one(t *testing.T, n int64, i int, v int64, ok bool) {
	t.Helper()
	args := right(n)
	args[i] = v
	want := int64(0)
	if !ok {
		want = caps.BadArg
	}
	if _, out := caps.Ask(63, n, args, twelve()); out != want {
		t.Errorf("Ask(%d, %v) = %d, not %d", n, args, out, want)
	}
	like(t, 63, n, args, twelve())
}

func TestP15_1_Ranges(t *testing.T) {
	all := []int64{math.MinInt64, math.MinInt64 + 1, -1 << 32, -1<<32 + 1, -256, -1, 1 << 41, 1<<63 - 1, 1 << 62}
	for _, x := range []struct {
		n            int64
		i            int
		right, wrong []int64
	}{
		{0, 0, []int64{0, 1, 100, 198, 199}, []int64{200, 201, 255, 256, 5000, 1 << 31, 1 << 32, 1<<32 + 2, 1 << 40}},
		{0, 1, []int64{0, 1, 100, 198, 199}, []int64{200, 201, 255, 256, 5000, 1 << 31, 1 << 32, 1<<32 + 2, 1 << 40}},
		{0, 2, []int64{' ', '~', 160, 0x2ff, 0x370, 0xfffd, 0xe000, 0x1f650, 0x3fffe, 0x10ffff}, []int64{0, 10, 31, 127, 159, 0x300, 0x200b, 0x4e2d, 0x1f600, 0xd800, 0xdfff, 0x110000, 1 << 31, 1<<32 + 'a', 1<<33 + 'a', 1 << 40}},
		{1, 0, []int64{0, 1, 255, 256, 1 << 24, 1<<24 + 1, 1<<25 - 1}, []int64{257, 1<<24 - 1, 1 << 25, 1 << 31, 1 << 32, 1<<32 + 1, 1 << 40}},
		{1, 1, []int64{0, 1, 255, 256, 1 << 24, 1<<24 + 1, 1<<25 - 1}, []int64{257, 1<<24 - 1, 1 << 25, 1 << 31, 1 << 32, 1<<32 + 1, 1 << 40}},
		{1, 2, []int64{0, 1, 2, 4, 8, 16, 21, 31}, []int64{32, 33, 63, 64, 1 << 31, 1 << 32, 1<<32 + 1, 1 << 40}},
		{3, 0, []int64{1, 2, 3, 4, 5, 6, 7, 8}, []int64{0, 9, 10, 16, 1 << 31, 1 << 32, 1<<32 + 3, 1 << 40}},
		{4, 0, []int64{1, 2, 3, 4, 5, 6, 7, 8}, []int64{0, 9, 10, 16, 1 << 31, 1 << 32, 1<<32 + 3, 1 << 40}},
		{5, 0, []int64{1, 2, 24, 25, 5000, 1 << 32, 1<<40 - 1, 1 << 40}, []int64{0, 1<<40 + 1, 1<<40 + 2}},
		{6, 0, []int64{1, 2, 24, 25, 5000, 1 << 32, 1<<40 - 1, 1 << 40}, []int64{0, 1<<40 + 1, 1<<40 + 2}},
		{8, 0, []int64{1, 2, 24, 25, 5000, 1 << 32, 1<<40 - 1, 1 << 40}, []int64{0, 1<<40 + 1, 1<<40 + 2}},
		{9, 0, []int64{1, 2, 24, 25, 5000, 1 << 32, 1<<40 - 1, 1 << 40}, []int64{0, 1<<40 + 1, 1<<40 + 2}},
		{9, 1, []int64{0, 1, 100, 198, 199}, []int64{200, 201, 255, 256, 5000, 1 << 31, 1 << 32, 1<<32 + 2, 1 << 40}},
		{9, 2, []int64{0, 1, 100, 198, 199}, []int64{200, 201, 255, 256, 5000, 1 << 31, 1 << 32, 1<<32 + 2, 1 << 40}},
		{5, 2, []int64{0, 1, 9, 10}, []int64{65, 66, 1 << 31, 1 << 32, 1<<32 + 2, 1 << 40}},
		{11, 1, []int64{0}, []int64{65, 66, 1 << 31, 1 << 32, 1<<32 + 2, 1 << 40}},
	} {
		for _, v := range x.right {
			one(t, x.n, x.i, v, true)
		}
		for _, v := range append(x.wrong, all...) {
			one(t, x.n, x.i, v, false)
		}
	}
}

func TestP15_1_EveryRune(t *testing.T) {
	for v := int64(-300); v < 0x110000+300; v++ {
		like(t, caps.Draw, 0, []int64{0, 0, v}, nil)
	}
}

func TestP15_1_EveryStyle(t *testing.T) {
	list := []int64{-1, 0, 1, 7, 31, 32, 256, 257, 1<<24 - 1, 1 << 24, 1<<25 - 1, 1 << 25}
	for _, fg := range list {
		for _, bg := range list {
			for _, attr := range list {
				like(t, caps.Draw, 1, []int64{fg, bg, attr}, nil)
			}
		}
	}
}

func TestP15_1_Memory(t *testing.T) {
	for _, x := range []struct {
		at, length, out int64
		text            string
	}{
		{0, 0, 0, ""}, {0, 1, 0, "a"}, {0, 12, 0, "abcdefghijkl"}, {0, 13, caps.BadMemory, ""}, {0, 64, caps.BadMemory, ""},
		{11, 0, 0, ""}, {11, 1, 0, "l"}, {11, 2, caps.BadMemory, ""}, {12, 0, 0, ""}, {12, 1, caps.BadMemory, ""}, {13, 0, caps.BadMemory, ""}, {13, 1, caps.BadMemory, ""},
		{-1, 0, caps.BadMemory, ""}, {-1, 1, caps.BadMemory, ""}, {-1, 2, caps.BadMemory, ""}, {4, 8, 0, "efghijkl"}, {4, 9, caps.BadMemory, ""},
		{1 << 32, 0, caps.BadMemory, ""}, {1<<32 + 1, 1, caps.BadMemory, ""}, {math.MaxInt64, 0, caps.BadMemory, ""}, {math.MaxInt64, 1, caps.BadMemory, ""}, {math.MaxInt64 - 63, 64, caps.BadMemory, ""}, {math.MinInt64, 0, caps.BadMemory, ""}, {math.MinInt64, 64, caps.BadMemory, ""},
	} {
		write, log := caps.Call{N: 5, Pane: 6, Bytes: []byte(x.text)}, caps.Call{N: 11, Bytes: []byte(x.text)}
		if x.out != 0 {
			write, log = caps.Call{}, caps.Call{}
		}
		holds(t, 4, 5, []int64{6, x.at, x.length}, twelve(), write, x.out)
		holds(t, 0, 11, []int64{x.at, x.length}, twelve(), log, x.out)
	}
}

func TestP15_1_MemoryOfAllSizes(t *testing.T) {
	for _, size := range []int{0, 1, 2, 63, 64, 65, 66, 130, 1024, 5000} {
		memory := make([]byte, size)
		for i := range memory {
			memory[i] = byte(i*7 + i>>8)
		}
		var list []int64
		for _, middle := range []int{0, 64, size, size - 64} {
			for d := -2; d <= 2; d++ {
				list = append(list, int64(middle+d))
			}
		}
		for _, at := range append(list, odd()...) {
			for _, length := range append(list, odd()...) {
				like(t, 4, 5, []int64{1, at, length}, memory)
				like(t, 0, 11, []int64{at, length}, memory)
			}
		}
	}
	// What lies behind the memory's length isn't memory.
	holds(t, 0, 11, []int64{3, 0}, twelve()[:3], caps.Call{N: 11}, 0)
	refused(t, 0, 11, []int64{3, 1}, twelve()[:3], caps.BadMemory)
	refused(t, 0, 11, []int64{4, 0}, twelve()[:3], caps.BadMemory)
	holds(t, 0, 11, []int64{0, 0}, nil, caps.Call{N: 11}, 0)
	refused(t, 0, 11, []int64{0, 1}, nil, caps.BadMemory)
}

func TestP15_1_TheFirstOneApplies(t *testing.T) {
	for _, x := range []struct {
		have int
		n    int64
		args []int64
		out  int64
	}{
		{0, 0, []int64{-1, -1}, caps.No}, {0, 0, []int64{-1, -1, -1}, caps.NotAllowed}, {1, 0, []int64{-1, 0, 'a'}, caps.BadArg},
		{0, 5, []int64{0, -1}, caps.No}, {0, 5, []int64{0, -1, 65}, caps.NotAllowed}, {4, 5, []int64{0, -1, 64}, caps.BadArg}, {4, 5, []int64{1, -1, 65}, caps.BadArg}, {4, 5, []int64{1, -1, -1}, caps.BadArg}, {4, 5, []int64{1, -1, 64}, caps.BadMemory},
		{0, 11, []int64{-1}, caps.No}, {0, 11, []int64{99, 65}, caps.BadArg}, {0, 11, []int64{99, 64}, caps.BadMemory},
		{0, 3, nil, caps.No}, {0, 3, []int64{0}, caps.NotAllowed}, {2, 3, []int64{0}, caps.BadArg},
		{0, 7, []int64{1}, caps.No}, {0, 7, nil, caps.NotAllowed}, {0, 12, []int64{1}, caps.No},
	} {
		refused(t, x.have, x.n, x.args, twelve(), x.out)
	}
}

// random is a call's number, and arguments, most of them near their ranges' ends.
func random(rnd *rand.Rand) (int64, []int64) {
	n := int64(rnd.Intn(12))
	args := right(n)
	for i := range args {
		switch rnd.Intn(4) {
		case 0:
			args[i] = pick(rnd, odd()...)
		case 1:
			args[i] = rnd.Int63n(14)
		}
	}
	switch rnd.Intn(20) {
	case 0:
		n = pick(rnd, wrongCalls()...)
	case 1:
		args = args[:rnd.Intn(len(args)+1)]
	case 2:
		args = append(args, rnd.Int63())
	}
	return n, args
}

func TestP15_1_Random(t *testing.T) {
	rnd := rand.New(rand.NewSource(15))
	seen := map[int64]int{}
	for range 200000 {
		n, args := random(rnd)
		have := pick(rnd, 63, 63, rnd.Intn(64), rnd.Int()-rnd.Int())
		memory := twelve()[:pick(rnd, 12, 12, rnd.Intn(13))]
		want, out := model(have, n, args, memory)
		holds(t, have, n, args, memory, want, out)
		seen[out]++
	}
	for out := int64(-4); out <= 0; out++ {
		if seen[out] < 1000 {
			t.Errorf("the answer %d came %d times alone", out, seen[out])
		}
	}
}

func TestP15_2_WithoutTheCapability(t *testing.T) {
	rnd := rand.New(rand.NewSource(2))
	for n, call := range hostCalls() {
		if call.needs == 0 {
			continue
		}
		for have := range 64 {
			if has(have, call.needs) {
				continue
			}
			for some := range 5 {
				for range 20 {
					args := make([]int64, some)
					for i := range args {
						args[i] = pick(rnd, odd()...)
					}
					want := int64(caps.NotAllowed)
					if some != len(call.args) {
						want = caps.No
					}
					memory := make([]byte, rnd.Intn(80))
					for _, more := range []int{0, 64, 1 << 40, math.MinInt} { // numbers that are no capabilities give none
						refused(t, have+more, int64(n), args, memory, want)
					}
				}
			}
			refused(t, have, int64(n), right(int64(n)), twelve(), caps.NotAllowed)
			refused(t, have, int64(n), right(int64(n)), nil, caps.NotAllowed)
		}
	}
}

func TestP15_2_OnlyWhatIsNeeded(t *testing.T) {
	for n := range int64(12) {
		needs := caps.Needs(n)
		if _, out := caps.Ask(needs, n, right(n), twelve()); out != 0 {
			t.Errorf("Ask of what is needed: call %d is %d", n, out)
		}
		if needs != 0 {
			refused(t, 63-needs, n, right(n), twelve(), caps.NotAllowed)
		}
	}
}

func TestP15_3_MoreCapabilities(t *testing.T) {
	rnd := rand.New(rand.NewSource(3))
	for range 20000 {
		n, args := random(rnd)
		memory := twelve()[:rnd.Intn(13)]
		have := rnd.Intn(64)
		c, out := caps.Ask(have, n, args, memory)
		for more := range 64 {
			d, other := caps.Ask(caps.Grant(have, more), n, args, memory)
			if out != caps.NotAllowed && (other != out || !sameCall(c, d)) {
				t.Fatalf("call %d of %v: %v, %d with %d, %v, %d with %d besides", n, args, c, out, have, d, other, more)
			}
			if out == caps.NotAllowed && (other == caps.No || other == out && has(more, caps.Needs(n))) {
				t.Fatalf("call %d of %v: %d with %d, %d with %d besides", n, args, out, have, other, more)
			}
		}
	}
}

func TestP15_4_BytesAreNewMemory(t *testing.T) {
	memory := append(make([]byte, 0, 100), twelve()...)
	for _, x := range []struct {
		n    int64
		args []int64
	}{{5, []int64{7, 2, 3}}, {5, []int64{7, 0, 12}}, {5, []int64{7, 12, 0}}, {11, []int64{2, 3}}, {11, []int64{0, 12}}, {11, []int64{0, 0}}} {
		first, _ := caps.Ask(63, x.n, x.args, memory)
		second, _ := caps.Ask(63, x.n, x.args, memory)
		want := bytes.Clone(second.Bytes)
		spoil(first.Bytes, 'z')
		if !bytes.Equal(memory[:100], append(twelve(), make([]byte, 88)...)) {
			t.Fatalf("bytes that were written over: the memory is %q", memory[:100])
		}
		if !bytes.Equal(second.Bytes, want) {
			t.Fatalf("bytes that were written over: another time %q, not %q", second.Bytes, want)
		}
		spoil(memory, 'y')
		if !bytes.Equal(second.Bytes, want) {
			t.Fatalf("a memory that was written over: %q, not %q", second.Bytes, want)
		}
		copy(memory[:100], append(twelve(), make([]byte, 88)...))
	}
}

func TestP15_4_ArgumentsStay(t *testing.T) {
	rnd := rand.New(rand.NewSource(4))
	for range 20000 {
		n, list := random(rnd)
		args := append(list, 5, 6, 7)[:len(list)]
		memory := twelve()
		kept := slices.Clone(args[:len(args)+3])
		part := memory[:rnd.Intn(13)]
		caps.Ask(pick(rnd, 0, 63), n, args, part)
		if !slices.Equal(args[:len(args)+3], kept) || string(memory) != string(twelve()) {
			t.Fatalf("Ask(%d): its arguments became %v, not %v, its memory %q", n, args, kept, memory)
		}
	}
}
