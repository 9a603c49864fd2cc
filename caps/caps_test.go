package caps_test

import (
	"math"
	"slices"
	"testing"

	"casement/caps"
)

func TestP15_1_Numbers(t *testing.T) {
	if got := []int{caps.Draw, caps.Watch, caps.Type, caps.Focus, caps.Open, caps.Look}; !slices.Equal(got, []int{1, 2, 4, 8, 16, 32}) {
		t.Errorf("the capabilities are %v", got)
	}
	if got := []int{caps.No, caps.NotAllowed, caps.BadArg, caps.BadMemory}; !slices.Equal(got, []int{-1, -2, -3, -4}) {
		t.Errorf("the answers are %v", got)
	}
}

func TestP15_1_Needs(t *testing.T) {
	want := []int{1, 1, 1, 2, 2, 4, 8, 16, 16, 32, 0, 0}
	for n, needs := range want {
		if got := caps.Needs(int64(n)); got != needs {
			t.Errorf("Needs(%d) = %d, not %d", n, got, needs)
		}
	}
	for _, n := range wrongCalls() {
		if got := caps.Needs(n); got != 0 {
			t.Errorf("Needs(%d) = %d", n, got)
		}
	}
}

// oddHaves are numbers of capabilities that aren't sums of these alone, and some that are.
func oddHaves() []int {
	return []int{math.MinInt, math.MinInt + 5, -64, -63, -33, -32, -2, -1, 0, 1, 2, 31, 32, 33, 62, 63, 64, 65, 66, 127, 128 + 42, 1 << 20, 1<<32 + 7, 1<<62 + 21, math.MaxInt - 1, math.MaxInt}
}

// known is what of a number is a sum of capabilities, told by what is left of it, divided.
func known(have int) int {
	return (have%64 + 64) % 64
}

func TestP15_1_Grant(t *testing.T) {
	for _, x := range [][3]int{{0, 0, 0}, {1, 2, 3}, {1, 1, 1}, {5, 6, 7}, {1, 64 + 2, 3}, {64, 128, 0}, {63, 0, 63}, {-1, 0, 63}, {0, -1, 63}, {-64, 4, 4}, {32, 31, 63}} {
		if got := caps.Grant(x[0], x[1]); got != x[2] {
			t.Errorf("Grant(%d, %d) = %d, not %d", x[0], x[1], got, x[2])
		}
	}
	for _, have := range oddHaves() {
		for _, more := range oddHaves() {
			want := 0
			for bit := 1; bit < 64; bit *= 2 {
				if has(known(have), bit) || has(known(more), bit) {
					want += bit
				}
			}
			if got := caps.Grant(have, more); got != want {
				t.Errorf("Grant(%d, %d) = %d, not %d", have, more, got, want)
			}
		}
	}
}

func TestP15_1_Names(t *testing.T) {
	for have, want := range map[int][]string{
		0: nil, 1: {"draw"}, 2: {"watch"}, 4: {"type"}, 8: {"focus"}, 16: {"open"}, 32: {"look"},
		33: {"draw", "look"}, 6: {"watch", "type"}, 24: {"focus", "open"}, 64: nil, 64 + 8: {"focus"}, -64: nil, 1 << 40: nil,
		63: {"draw", "watch", "type", "focus", "open", "look"}, -1: {"draw", "watch", "type", "focus", "open", "look"},
	} {
		if got := caps.Names(have); !slices.Equal(got, want) {
			t.Errorf("Names(%d) = %q, not %q", have, got, want)
		}
	}
	for _, have := range append(oddHaves(), []int{5, 10, 21, 42, 48, 56, 60}...) {
		var want []string
		for bit, name := range []string{"draw", "watch", "type", "focus", "open", "look"} {
			if has(known(have), 1<<bit) {
				want = append(want, name)
			}
		}
		if got := caps.Names(have); !slices.Equal(got, want) {
			t.Errorf("Names(%d) = %q, not %q", have, got, want)
		}
	}
}

func TestP15_4_NamesAreNewMemory(t *testing.T) {
	for have := range 64 {
		first, second := caps.Names(have), caps.Names(have)
		want := slices.Clone(second)
		spoil(first, "x")
		if third := caps.Names(have); !slices.Equal(second, want) || !slices.Equal(third, want) {
			t.Fatalf("Names(%d) that were written over: another time %q, %q", have, second, third)
		}
	}
}
