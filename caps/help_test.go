package caps_test

import (
	"math"
	"math/rand"
	"slices"
	"testing"

	"casement/api"
	"casement/caps"
	"casement/glyph"
)

// hostCall is what the chapter says of one: what it needs, and what each of its arguments is, by a letter: x and y, a rune,
// a colour, marks, a kind of an event, a pane, a place, a length.
type hostCall struct {
	needs int
	args  string
}

func hostCalls() []hostCall {
	return []hostCall{{1, "xyr"}, {1, "ccm"}, {1, ""}, {2, "k"}, {2, "k"}, {4, "pal"}, {8, "p"}, {16, ""}, {16, "p"}, {32, "pxy"}, {0, ""}, {0, "al"}}
}

// has tells whether a number, bit by bit, has a capability.
func has(have, needs int) bool {
	for bit := range 6 {
		if needs>>bit&1 == 1 && have>>bit&1 == 0 {
			return false
		}
	}
	return true
}

// fits tells whether an argument is in its range; where a place may be hangs on the memory.
func fits(letter rune, v int64) bool {
	switch letter {
	case 'x', 'y':
		return v >= 0 && v < 200
	case 'r':
		return v > 0 && v <= 0x10ffff && glyph.Width(rune(v)) == 1
	case 'c':
		return v >= 0 && v <= 256 || v >= 16777216 && v <= 16777216+16777215
	case 'm':
		return v >= 0 && v < 32
	case 'k':
		return v > 0 && v < 9
	case 'p':
		return v > 0 && v <= 1099511627776
	case 'l':
		return v >= 0 && v <= 64
	}
	return true
}

// model answers what Ask should, going over the arguments letter by letter.
func model(have int, n int64, args []int64, memory []byte) (c caps.Call, out int64) {
	if n < 0 || n > 11 || len(args) != len(hostCalls()[n].args) {
		return c, -1
	}
	call := hostCalls()[n]
	if !has(have, call.needs) {
		return c, -2
	}
	for i, letter := range call.args {
		if !fits(letter, args[i]) {
			return c, -3
		}
	}
	if i := slices.Index([]rune(call.args), 'a'); i >= 0 {
		at, size := args[i], int64(len(memory))
		if at < 0 || at > size || args[i+1] > size-at {
			return c, -4
		}
		for j := range args[i+1] {
			c.Bytes = append(c.Bytes, memory[at+j])
		}
	}
	fill(&c, int(n), args)
	return c, 0
}

// fill sets what a call is about but for its bytes.
func fill(c *caps.Call, n int, args []int64) {
	c.N = n
	for i, letter := range hostCalls()[n].args {
		switch v := int(args[i]); letter {
		case 'x':
			c.X = v
		case 'y':
			c.Y = v
		case 'r':
			c.Rune = rune(v)
		case 'c':
			c.Style.Fg, c.Style.Bg = c.Style.Bg, v // the first one comes to Fg, as the second one comes
		case 'm':
			c.Style.Attr = v
		case 'k':
			c.Kind = v
		case 'p':
			c.Pane = v
		}
	}
}

// sameCall tells whether calls are the same; bytes that are nil and that are empty are.
func sameCall(a, b caps.Call) bool {
	return a.N == b.N && a.Pane == b.Pane && a.X == b.X && a.Y == b.Y && a.Kind == b.Kind && a.Rune == b.Rune && a.Style == b.Style && slices.Equal(a.Bytes, b.Bytes)
}

// holds holds Ask to a call and a number.
func holds(t *testing.T, have int, n int64, args []int64, memory []byte, want caps.Call, out int64) {
	t.Helper()
	if c, got := caps.Ask(have, n, args, memory); got != out || !sameCall(c, want) {
		t.Fatalf("Ask(%d, %d, %v, %d bytes) = %v, %d, not %v, %d", have, n, args, len(memory), c, got, want, out)
	}
}

// like holds Ask to the model.
func like(t *testing.T, have int, n int64, args []int64, memory []byte) {
	t.Helper()
	want, out := model(have, n, args, memory)
	holds(t, have, n, args, memory, want, out)
}

// refused holds Ask to a number beside the zero Call.
func refused(t *testing.T, have int, n int64, args []int64, memory []byte, out int64) {
	t.Helper()
	holds(t, have, n, args, memory, caps.Call{}, out)
}

// right are arguments of a call that are all in their ranges, of a memory of 12 bytes too.
func right(n int64) []int64 {
	return [][]int64{{2, 3, 'a'}, {1, 256, 31}, {}, {8}, {1}, {7, 2, 3}, {1}, {}, {api.MaxTime}, {3, 199, 0}, {}, {12, 0}}[n]
}

// twelve is a memory of 12 bytes.
func twelve() []byte { return []byte("abcdefghijkl") }

// odd are numbers near which much is another.
func odd() []int64 {
	list := []int64{math.MinInt64, math.MinInt64 + 1, math.MaxInt64, math.MaxInt64 - 1, math.MaxInt64 - 64, 'a', 0x4e2d, 0x301, 0xd800, 0xfffd, 1<<32 + 'a', -1<<32 + 'a', 1<<33 + 8, 1<<56 + 1}
	for _, middle := range []int64{0, 8, 12, 31, 64, 127, 199, 256, 1024, 0x10ffff, 1 << 24, 1 << 25, 1 << 31, 1 << 32, 1 << 40} {
		for d := int64(-2); d <= 2; d++ {
			list = append(list, middle+d, -(middle + d))
		}
	}
	return list
}

// wrongCalls are numbers of no call.
func wrongCalls() []int64 {
	return []int64{math.MinInt64, -1 << 32, -256, -12, -2, -1, 12, 13, 64, 99, 256, 1 << 31, 1 << 32, 1<<32 + 5, 1<<32 + 10, 1 << 62, math.MaxInt64}
}

func pick[T any](rnd *rand.Rand, of ...T) T { return of[rnd.Intn(len(of))] }

// spoil writes over a list and its spare room.
func spoil[T any](list []T, v T) {
	list = list[:cap(list)]
	for i := range list {
		list[i] = v
	}
}
