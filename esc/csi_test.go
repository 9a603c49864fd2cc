package esc_test

import (
	"fmt"
	"math"
	"math/rand"
	"slices"
	"strings"
	"testing"

	"casement/esc"
)

// privs are the bytes that may be told ahead of numbers, and are read back.
var privs = []byte{0, '<', '=', '>', '?'}

// counts are the numbers at which something changes.
var counts = []int{math.MinInt, -10000, -2, -1, 0, 1, 9, 10, 255, 9998, 9999, 10000, 1 << 31, math.MaxInt}

// asRead are the numbers that are read back.
func asRead(params []int) []int {
	var list []int
	for i, n := range params {
		if i < 16 {
			list = append(list, max(-1, min(n, 9999)))
		}
	}
	if slices.Equal(list, []int{-1}) {
		return nil // one number without digits is no number
	}
	return list
}

func TestP4_3_CsiTable(t *testing.T) {
	of := func(n, v int) []int { return slices.Repeat([]int{v}, n) }
	for _, x := range []struct {
		priv   byte
		params []int
		final  byte
		out    string
	}{
		{0, nil, 'm', "\x1b[m"},
		{0, []int{}, 'm', "\x1b[m"},
		{0, []int{0}, 'm', "\x1b[0m"},
		{0, []int{1, 2}, 'H', "\x1b[1;2H"},
		{'?', []int{25}, 'l', "\x1b[?25l"},
		{'?', []int{-1, 12345, 3}, 'h', "\x1b[?;9999;3h"},
		{0, []int{-1}, 'H', "\x1b[H"},
		{0, []int{-1, -1}, 'H', "\x1b[;H"},
		{0, []int{math.MinInt, 7}, 'H', "\x1b[;7H"},
		{0, []int{7, -2}, 'H', "\x1b[7;H"},
		{0, []int{9998, 9999, 10000, math.MaxInt}, 'A', "\x1b[9998;9999;9999;9999A"},
		{0, of(15, 3), 'm', "\x1b[" + strings.Repeat("3;", 14) + "3m"},
		{0, of(16, 3), 'm', "\x1b[" + strings.Repeat("3;", 15) + "3m"},
		{0, of(17, 3), 'm', "\x1b[" + strings.Repeat("3;", 15) + "3m"},
		{0, of(5000, 3), 'm', "\x1b[" + strings.Repeat("3;", 15) + "3m"},
		{0, of(17, -1), 'm', "\x1b[" + strings.Repeat(";", 15) + "m"},
		{'>', nil, '~', "\x1b[>~"},
		{1, []int{2}, 0, "\x1b[\x012\x00"},
		{0xff, []int{2}, 0x80, "\x1b[\xff2\x80"},
		{27, nil, 27, "\x1b[\x1b\x1b"},
	} {
		if got := esc.Csi(x.priv, x.params, x.final); string(got) != x.out {
			t.Errorf("Csi(%q, %v, %q) = %q, not %q", x.priv, x.params, x.final, got, x.out)
		}
	}
}

func TestP4_3_CsiOfAllBytes(t *testing.T) {
	for priv := range 256 {
		for final := range 256 {
			want := fmt.Sprintf("\x1b[%s;4%s", string([]byte{byte(priv)}), string([]byte{byte(final)}))
			if priv == 0 {
				want = fmt.Sprintf("\x1b[;4%s", string([]byte{byte(final)}))
			}
			if got := esc.Csi(byte(priv), []int{-3, 4}, byte(final)); string(got) != want {
				t.Fatalf("Csi(%d, .., %d) = %q, not %q", priv, final, got, want)
			}
		}
	}
}

// readsBack tells a sequence, and reads it.
func readsBack(t *testing.T, priv byte, params []int, final byte) {
	t.Helper()
	b := esc.Csi(priv, params, final)
	var p esc.Parser
	if got := p.Feed(b); !sameActs(got, acts(private(priv, final, asRead(params)...))) || !p.Idle() {
		t.Fatalf("Csi(%q, %v, %q) = %q, and says %v, idle %v", priv, params, final, b, got, p.Idle())
	}
}

func TestP4_3_EveryFinalIsReadBack(t *testing.T) {
	for _, priv := range privs {
		for final := byte(64); final <= 126; final++ {
			for _, params := range [][]int{nil, {0}, {-1}, {9999}, {1, 2}, {-1, -1}, {5, -1}, {-1, 5}, {3, 99999, 4}} {
				readsBack(t, priv, params, final)
			}
		}
	}
}

func TestP4_3_NumbersAreReadBack(t *testing.T) {
	for n := -3; n <= 10003; n++ {
		readsBack(t, 0, []int{n}, 'm')
		readsBack(t, '?', []int{n, n + 1}, 'h')
	}
	rnd := rand.New(rand.NewSource(1))
	for range 5000 {
		var params []int
		for range rnd.Intn(20) {
			params = append(params, counts[rnd.Intn(len(counts))])
		}
		readsBack(t, privs[rnd.Intn(len(privs))], params, byte(64+rnd.Intn(63)))
	}
}

func TestP4_4_CsiIsNewMemory(t *testing.T) {
	backing := []int{-5, 12345, 7, 8, 9}
	before := slices.Clone(backing)
	one, two := esc.Csi('?', backing[:3], 'h'), esc.Csi('?', backing[:3], 'h')
	spoil(one, 'Z')
	if string(two) != "\x1b[?;9999;7h" || !slices.Equal(backing, before) {
		t.Errorf("behind a Csi that was written over: %q, %v", two, backing)
	}
	long := slices.Repeat([]int{-1, 20000}, 20)
	kept := slices.Clone(long)
	if esc.Csi(0, long, 'm'); !slices.Equal(long, kept) {
		t.Errorf("Csi leaves %v", long)
	}
}
