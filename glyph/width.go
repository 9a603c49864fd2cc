package glyph

import (
	"math"
	"slices"
	"unicode/utf8"
)

// span is the runes from first to last.
type span struct{ first, last rune }

// within tells whether a rune lies in one of the spans.
func within(r rune, spans ...span) bool {
	return slices.ContainsFunc(spans, func(s span) bool { return s.first <= r && r <= s.last })
}

// narrow tells whether a rune takes no cell. Numbers that are no runes take none, so they stand among the spans.
func narrow(r rune) bool {
	return within(r,
		span{math.MinInt32, 31},
		span{127, 159},
		span{0x300, 0x36f},
		span{0x200b, 0x200f},
		span{0xd800, 0xdfff},
		span{0xfe00, 0xfe0f},
		span{utf8.MaxRune + 1, math.MaxInt32},
	)
}

// wide tells whether a rune takes two cells.
func wide(r rune) bool {
	return within(r,
		span{0x1100, 0x115f},
		span{0x2e80, 0x303e},
		span{0x3041, 0xa4cf},
		span{0xac00, 0xd7a3},
		span{0xf900, 0xfaff},
		span{0xfe30, 0xfe6f},
		span{0xff00, 0xff60},
		span{0xffe0, 0xffe6},
		span{0x1f300, 0x1f64f},
		span{0x1f900, 0x1f9ff},
		span{0x20000, 0x3fffd},
	)
}

// Width is how many cells a rune takes.
func Width(r rune) int {
	switch {
	case narrow(r):
		return 0
	case wide(r):
		return 2
	}
	return 1
}

// Total is how many cells runes take.
func Total(rs []rune) int {
	n := 0
	for _, r := range rs {
		n += Width(r)
	}
	return n
}

// Cut is the longest beginning that takes at most w cells, and how many it takes.
func Cut(rs []rune, w int) ([]rune, int) {
	var cut []rune
	total := 0
	for _, r := range rs {
		next := total + Width(r)
		if next > w {
			break
		}
		cut = append(cut, r)
		total = next
	}
	return cut, total
}
