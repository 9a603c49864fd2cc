package glyph_test

import (
	"math"
	"slices"
	"testing"

	"casement/glyph"
)

// spans are the runes that the document names, and what they take.
var spans = []struct {
	first, last rune
	width       int
}{
	{math.MinInt32, -1, 0},
	{0, 31, 0},
	{127, 159, 0},
	{0x300, 0x36f, 0},
	{0x1100, 0x115f, 2},
	{0x200b, 0x200f, 0},
	{0x2e80, 0x303e, 2},
	{0x3041, 0xa4cf, 2},
	{0xac00, 0xd7a3, 2},
	{0xd800, 0xdfff, 0},
	{0xf900, 0xfaff, 2},
	{0xfe00, 0xfe0f, 0},
	{0xfe30, 0xfe6f, 2},
	{0xff00, 0xff60, 2},
	{0xffe0, 0xffe6, 2},
	{0x1f300, 0x1f64f, 2},
	{0x1f900, 0x1f9ff, 2},
	{0x20000, 0x3fffd, 2},
	{0x110000, math.MaxInt32, 0},
}

func widthOf(r rune) int {
	for _, s := range spans {
		if s.first <= r && r <= s.last {
			return s.width
		}
	}
	return 1
}

func TestP1_1_Width(t *testing.T) {
	for r := rune(-1000); r <= 0x110000+1000; r++ {
		if got := glyph.Width(r); got != widthOf(r) {
			t.Fatalf("Width(%x) = %d, not %d", r, got, widthOf(r))
		}
	}
	for _, r := range []rune{math.MinInt32, math.MinInt32 + 1, -1 << 16, 1 << 24, math.MaxInt32 - 1, math.MaxInt32} {
		if glyph.Width(r) != 0 {
			t.Errorf("Width(%x) = %d", r, glyph.Width(r))
		}
	}
	for r, w := range map[rune]int{31: 0, ' ': 1, '~': 1, 127: 0, 159: 0, 160: 1, 0x10ff: 1, 0x1100: 2, 0x303f: 1, 0x3040: 1, 0x4e2d: 2, 0xfffd: 1, 0x3fffe: 1, 0x10ffff: 1} {
		if glyph.Width(r) != w {
			t.Errorf("Width(%x) = %d, not %d", r, glyph.Width(r), w)
		}
	}
}

// runeLists goes through all lists of up to n runes of all widths.
func runeLists(n int, yield func(rs []rune)) {
	rs := make([]rune, 0, n)
	var deeper func()
	deeper = func() {
		yield(rs)
		if len(rs) == n {
			return
		}
		for _, r := range []rune{'a', 0x4e2d, 0x301, 0xd800, -1, math.MaxInt32} {
			rs = append(rs, r)
			deeper()
			rs = rs[:len(rs)-1]
		}
	}
	deeper()
}

func TestP1_1_Total(t *testing.T) {
	if glyph.Total(nil) != 0 {
		t.Errorf("Total(nil) = %d", glyph.Total(nil))
	}
	runeLists(5, func(rs []rune) {
		want := 0
		for _, r := range rs {
			want += widthOf(r)
		}
		if got := glyph.Total(rs); got != want {
			t.Fatalf("Total(%x) = %d, not %d", rs, got, want)
		}
	})
}

// longest is how many runes the longest beginning has that takes at most w cells, and how many it takes.
func longest(rs []rune, w int) (int, int) {
	for n := len(rs); n >= 0 && w >= 0; n-- {
		if total := glyph.Total(rs[:n]); total <= w {
			return n, total
		}
	}
	return 0, 0
}

func TestP1_1_Cut(t *testing.T) {
	runeLists(4, func(rs []rune) {
		for _, w := range []int{math.MinInt, -2, -1, 0, 1, 2, 3, 4, 5, 6, 7, 8, 9, math.MaxInt} {
			n, total := longest(rs, w)
			if got, width := glyph.Cut(rs, w); !slices.Equal(got, rs[:n]) || width != total {
				t.Fatalf("Cut(%x, %d) = %x, %d, not %x, %d", rs, w, got, width, rs[:n], total)
			}
		}
	})
	if got, width := glyph.Cut(nil, 5); len(got) != 0 || width != 0 {
		t.Errorf("Cut(nil, 5) = %x, %d", got, width)
	}
	if got, width := glyph.Cut([]rune{'a', 0x4e2d, 'b'}, 2); string(got) != "a" || width != 1 {
		t.Errorf("Cut ahead of a rune that doesn't fit = %x, %d", got, width)
	}
	if got, width := glyph.Cut([]rune{'a', 0x301, 'b'}, 1); string(got) != "a\u0301" || width != 1 {
		t.Errorf("Cut behind a rune of width 0 = %x, %d", got, width)
	}
	if got, width := glyph.Cut([]rune{0x301, 'a'}, -1); len(got) != 0 || width != 0 {
		t.Errorf("Cut below 0 = %x, %d", got, width)
	}
}

func TestP1_4_CutIsNewMemory(t *testing.T) {
	for _, w := range []int{-1, 0, 1, 2, 9} {
		rs := []rune{0x301, 'a', 0x4e2d, 'x', 'y'}
		first, _ := glyph.Cut(rs[:3], w)
		second, _ := glyph.Cut(rs[:3], w)
		want := slices.Clone(second)
		spoil(first, 'z')
		if !slices.Equal(rs, []rune{0x301, 'a', 0x4e2d, 'x', 'y'}) || !slices.Equal(second, want) {
			t.Errorf("behind a Cut at %d whose answer was written over: %x, %x", w, rs, second)
		}
		spoil(rs, 'z')
		if !slices.Equal(second, want) {
			t.Errorf("behind runes that were written over, cut at %d: %x, not %x", w, second, want)
		}
	}
}
