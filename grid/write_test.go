package grid_test

import (
	"math"
	"strings"
	"testing"

	"casement/api"
	"casement/grid"
)

// line is some bytes, what a grid shows behind them, where its cursor is then, and what is past.
type line struct {
	w, h int
	in   string
	rows string
	x, y int
	past string
}

func (l line) holds(t *testing.T) {
	t.Helper()
	g := written(t, l.w, l.h, 10, l.in)
	x, y, _ := g.Cursor()
	if shown(g) != l.rows || x != l.x || y != l.y || gone(g) != l.past {
		t.Errorf("%q: %q, cursor %d, %d, past %q; not %q, %d, %d, %q", l.in, shown(g), x, y, gone(g), l.rows, l.x, l.y, l.past)
	}
}

func TestP6_1_AtFirst(t *testing.T) {
	g := grid.New(3, 2, 5)
	x, y, on := g.Cursor()
	if w, h := g.Size(); w != 3 || h != 2 || x != 0 || y != 0 || !on {
		t.Errorf("%d, %d, cursor %d, %d, %v", w, h, x, y, on)
	}
	if g.Past() != 0 || g.Title() != "" || g.Bells() != 0 || g.Alt() || g.Style() != (api.Style{}) || len(g.Take()) != 0 {
		t.Error("something has happened to a new grid")
	}
	for y := range 2 {
		for _, c := range g.Row(y) {
			if c != (api.Cell{Rune: ' '}) {
				t.Errorf("a cell is %v", c)
			}
		}
	}
	if g.Write(nil) != 0 || g.Write([]byte{}) != 0 || shown(g) != "   |   " {
		t.Error("no bytes do something")
	}
}

func TestP6_1_SizesAreClamped(t *testing.T) {
	for _, x := range []struct{ w, h, ww, hh int }{
		{0, 0, 1, 1}, {-5, 7, 1, 7}, {1, 1, 1, 1}, {199, 200, 199, 200}, {201, 9999, 200, 200}, {math.MinInt, math.MaxInt, 1, 200}, {math.MaxInt, math.MinInt, 200, 1},
	} {
		g, r := grid.New(x.w, x.h, 0), grid.New(5, 5, 0)
		r.Resize(x.w, x.h)
		for _, g := range []*grid.Grid{g, r} {
			if w, h := g.Size(); w != x.ww || h != x.hh || len(g.Row(h-1)) != w || g.Row(h) != nil {
				t.Errorf("%d, %d: %d, %d", x.w, x.h, w, h)
			}
		}
	}
}

func TestP6_1_ThePastIsARing(t *testing.T) {
	for _, x := range []struct{ most, n int }{{math.MinInt, 0}, {-1, 0}, {0, 0}, {1, 1}, {7, 7}, {999, 999}, {1000, 1000}, {1001, 1000}, {math.MaxInt, 1000}} {
		g := grid.New(2, 1, x.most)
		g.Write([]byte(strings.Repeat("a\r\n", 1100) + "b\r\nc"))
		if g.Past() != x.n || x.n > 0 && text(g.Old(x.n-1)) != "b " {
			t.Errorf("at most %d: %d", x.most, g.Past())
		}
	}
}

func TestP6_1_NoSuchRow(t *testing.T) {
	g := written(t, 3, 2, 5, "a\r\nb\r\nc")
	for _, y := range []int{math.MinInt, -1, 2, 3, math.MaxInt} {
		if row := g.Row(y); len(row) != 0 {
			t.Errorf("Row(%d) = %q", y, text(row))
		}
	}
	for _, i := range []int{math.MinInt, -1, 1, 2, math.MaxInt} {
		if row := g.Old(i); len(row) != 0 {
			t.Errorf("Old(%d) = %q", i, text(row))
		}
	}
	if text(g.Row(1)) != "c  " || text(g.Old(0)) != "a  " {
		t.Errorf("%q, %q", text(g.Row(1)), text(g.Old(0)))
	}
}

func TestP6_1_WriteCountsActs(t *testing.T) {
	for _, x := range []struct {
		in string
		n  int
	}{
		{"", 0}, {"abc", 3}, {"\u4e2d\u0301", 2}, {"\xff\xff", 2}, {"\xe4\xb8", 0}, {"\x1b[", 0}, {"\x1b[31m", 1}, {"\x00\x0e", 2}, {"\x1bZ\x1b(B", 2}, {"\x1b[1:2m", 0}, {"\x1b]0;x\x07\x1bPy\x1b\\", 2}, {"\x18\x1a\x7f", 0},
	} {
		g := grid.New(4, 2, 0)
		if n := g.Write([]byte(x.in)); n != x.n {
			t.Errorf("%q: %d acts, not %d", x.in, n, x.n)
		}
	}
}

func TestP6_1_Example(t *testing.T) {
	g := grid.New(5, 2, 9)
	g.Write([]byte("ab\x1b[31mcdefg"))
	x, y, _ := g.Cursor()
	if shown(g) != "abcde|fg   " || x != 2 || y != 1 {
		t.Errorf("%q, %d, %d", shown(g), x, y)
	}
	for i, c := range append(g.Row(0), g.Row(1)[:2]...) {
		want := api.Style{}
		if i >= 2 {
			want.Fg = 2
		}
		if c.Style != want {
			t.Errorf("cell %d: %v", i, c)
		}
	}
	if g.Write([]byte("\r\nx")); shown(g) != "fg   |x    " || gone(g) != "abcde" {
		t.Errorf("%q, past %q", shown(g), gone(g))
	}
}

func TestP6_1_Print(t *testing.T) {
	for _, l := range []line{
		{3, 2, "abc", "abc|   ", 2, 0, ""},
		{3, 2, "abcd", "abc|d  ", 1, 1, ""},
		{3, 2, "abcdefg", "def|g  ", 1, 1, "abc"},
		{3, 2, "\x1b[?7labcde", "abe|   ", 2, 0, ""},
		{3, 2, "a\u0301\u200b\u0085\ufe0fb", "ab |   ", 2, 0, ""},
		{3, 2, "abc\u0301d", "abc|d  ", 1, 1, ""}, // what has no width leaves the cursor held
		{1, 2, "a\u4e2db", "a|b", 0, 1, ""},       // and so does what is too wide
		{1, 1, "ab\u4e2d", "b", 0, 0, "a"},
		{2, 2, "\u4e2d\u4e2d", "\u4e2d~|\u4e2d~", 1, 1, ""},
		{3, 2, "ab\u4e2d", "ab |\u4e2d~ ", 2, 1, ""},
		{3, 2, "a\u4e2db", "a\u4e2d~|b  ", 1, 1, ""},
		{3, 2, "\x1b[?7lab\u4e2dc\u4e2d", "a\u4e2d~|   ", 2, 0, ""},
		{2, 1, "\x1b[?7l\u4e2da\u4e2d", "\u4e2d~", 1, 0, ""},
		{4, 1, "\u4e2d\u4e2d\x1b[Hx", "x \u4e2d~", 1, 0, ""},
		{4, 1, "\u4e2d\u4e2d\x1b[2Gx", " x\u4e2d~", 2, 0, ""},
		{4, 1, "\u4e2d\u4e2d\x1b[2G\u4e2d", " \u4e2d~ ", 3, 0, ""},
		{3, 2, "\xff\xe4\xb8x", "\ufffd\ufffd\ufffd|x  ", 1, 1, ""},
		// behind the region's end there is no scrolling, and at the screen's no further row
		{2, 3, "\x1b[1;2r\x1b[3;1Habcd", "  |  |cd", 1, 2, ""},
	} {
		l.holds(t)
	}
}

func TestP6_1_PrintInserts(t *testing.T) {
	for _, l := range []line{
		{4, 1, "abc\x1b[H\x1b[4hX", "Xabc", 1, 0, ""},
		{4, 1, "abcd\x1b[H\x1b[4hX", "Xabc", 1, 0, ""},
		{4, 1, "abcd\x1b[2G\x1b[4h\u4e2d", "a\u4e2d~b", 3, 0, ""},
		{4, 1, "abcd\x1b[4G\x1b[4hX", "abcX", 3, 0, ""},
		{4, 1, "ab\u4e2d\x1b[H\x1b[4hX", "Xab ", 1, 0, ""},  // a half that lost the other one at the end
		{4, 1, "\u4e2dcd\x1b[2G\x1b[4hX", " X c", 2, 0, ""}, // and one in whose middle something came
		{4, 1, "\u4e2dcd\x1b[2G\x1b[4h\u4e2d", " \u4e2d~ ", 3, 0, ""},
		{4, 1, "abc\x1b[H\x1b[4hX\x1b[4lY", "XYbc", 2, 0, ""},
		{4, 1, "abc\x1b[H\x1b[1;4;9hX", "Xabc", 1, 0, ""},
		{4, 1, "abc\x1b[H\x1b[?4hX", "Xbc ", 1, 0, ""},
		{2, 2, "\x1b[4habc", "ab|c ", 1, 1, ""},
	} {
		l.holds(t)
	}
	g := written(t, 4, 1, 0, "\x1b[41mab\x1b[42m\x1b[H\x1b[4hX")
	if row := g.Row(0); row[0] != (api.Cell{Rune: 'X', Style: api.Style{Bg: 3}}) || row[1] != (api.Cell{Rune: 'a', Style: api.Style{Bg: 2}}) {
		t.Errorf("%v", row)
	}
}

func TestP6_1_WideRunesHaveOneStyle(t *testing.T) {
	g := written(t, 4, 1, 0, "\x1b[1;33m\u4e2d\x1b[42mx")
	want := []api.Cell{{Rune: 0x4e2d, Style: api.Style{Fg: 4, Attr: 1}}, {Style: api.Style{Fg: 4, Attr: 1}}, {Rune: 'x', Style: api.Style{Fg: 4, Bg: 3, Attr: 1}}, {Rune: ' '}}
	for x, c := range g.Row(0) {
		if c != want[x] {
			t.Errorf("cell %d is %v, not %v", x, c, want[x])
		}
	}
	// Halves that are mended keep their styles.
	g.Write([]byte("\x1b[m\x1b[H\x1b[2Gz"))
	if row := g.Row(0); row[0] != (api.Cell{Rune: ' ', Style: want[0].Style}) || row[1] != (api.Cell{Rune: 'z'}) {
		t.Errorf("%v", row)
	}
}

func TestP6_1_Exec(t *testing.T) {
	for _, l := range []line{
		{3, 3, "a\nb\vc\fd", " b |  c|  d", 2, 2, "a  "},
		{3, 2, "ab\rc", "cb |   ", 1, 0, ""},
		{3, 2, "abc\rd", "dbc|   ", 1, 0, ""},
		{3, 2, "ab\b\b\b\bc", "cb |   ", 1, 0, ""},
		{3, 2, "abc\bd", "adc|   ", 2, 0, ""},
		{20, 1, "\tx\ty\tz", "        x       y  z", 19, 0, ""},
		{8, 1, "\tx", "       x", 7, 0, ""},
		{9, 1, "\tx", "        x", 8, 0, ""},
		{10, 1, "\t\tx", "         x", 9, 0, ""},
		{3, 2, "a\x00\x01\x06\x0e\x1fb", "ab |   ", 2, 0, ""},
	} {
		l.holds(t)
	}
	if g := written(t, 3, 2, 0, "\x07a\x07\x1b[\x071m\x1b]0;x\x07"); g.Bells() != 3 {
		t.Errorf("%d bells", g.Bells()) // the last 7 is a string's end
	}
}

func TestP6_1_Escapes(t *testing.T) {
	for _, l := range []line{
		{3, 3, "ab\x1bDc", "ab |  c|   ", 2, 1, ""},
		{3, 3, "ab\x1bEc", "ab |c  |   ", 1, 1, ""},
		{3, 2, "a\r\nb\x1bEc", "b  |c  ", 1, 1, "a  "},
		{3, 2, "a\r\nb\x1bMc", "ac |b  ", 2, 0, ""},
		{3, 2, "a\r\nb\x1b[H\x1bMc", "c  |a  ", 1, 0, ""},
		{3, 3, "a\r\nb\r\nc\x1b[2;3r\x1b[2;2H\x1bMd", "a  | d |b  ", 2, 1, ""},
		{3, 3, "a\r\nb\r\nc\x1b[2;3r\x1b[1;2H\x1bMd", "ad |b  |c  ", 2, 0, ""},
		{3, 3, "\x1b[2;2Ha\x1b7\x1b[Hb\x1b8c", "b  | ac|   ", 2, 1, ""},
		{3, 3, "\x1b[2;2H\x1b8a", "a  |   |   ", 1, 0, ""},
		{3, 3, "ab\x1b#7\x1b(8\x1b(c\x1b#DZ", "abZ|   |   ", 2, 0, ""},
		{3, 3, "ab\x1bZ\x1b=\x1b>\x1b9\x1bNc", "abc|   |   ", 2, 0, ""},
	} {
		l.holds(t)
	}
	g := written(t, 3, 2, 0, "\x1b[31m\x1b7\x1b[1;42mx\x1b8y")
	if g.Style() != (api.Style{Fg: 2}) || g.Row(0)[0] != (api.Cell{Rune: 'y', Style: api.Style{Fg: 2}}) {
		t.Errorf("%v, %v", g.Style(), g.Row(0))
	}
}

func TestP6_1_TabStops(t *testing.T) {
	for _, l := range []line{
		{20, 1, "\x1b[4G\x1bH\r\tx\tx", "   x    x           ", 9, 0, ""},
		{20, 1, "\x1b[9G\x1b[g\r\tx", "                x   ", 17, 0, ""},
		{20, 1, "\x1b[9G\x1b[0g\r\tx", "                x   ", 17, 0, ""},
		{20, 1, "\x1b[9G\x1b[1g\x1b[2g\x1b[4g\r\tx", "        x           ", 9, 0, ""},
		{20, 1, "\x1b[3g\r\tx", "                   x", 19, 0, ""},
		{20, 1, "\x1b[3g\x1b[6G\x1bH\r\tx\ty", "     x             y", 19, 0, ""},
		{20, 1, "\x1b[20G\x1bH\r\t\t\tx", "                   x", 19, 0, ""},
		{20, 1, "\x1b[1G\x1bH\x1b[5G\t\x1b[2Dx", "      x             ", 7, 0, ""},
		{20, 1, "\x1b[3g\x1bc\tx", "        x           ", 9, 0, ""},
	} {
		l.holds(t)
	}
}

func TestP6_1_ResetLeavesThePastTheBellsAndTheReplies(t *testing.T) {
	g := written(t, 9, 3, 5, "p\r\n\n\n\x07\x1b[5n\x1b]0;t\x07\x1b[31;42mx\x1b7\x1b[2;3r\x1b[?6;25h\x1b[?7;25l\x1b[4h\x1b[3g\x1b[?1049h\x1b[41my\x1b7\x1bc")
	x, y, on := g.Cursor()
	if x != 0 || y != 0 || !on || g.Alt() || g.Title() != "" || g.Style() != (api.Style{}) || g.Bells() != 1 || gone(g) != "p        " || string(g.Take()) != "\x1b[0n" {
		t.Errorf("%d, %d, %v, %v, %q, %v, %d, %q", x, y, on, g.Alt(), g.Title(), g.Style(), g.Bells(), gone(g))
	}
	for y := range 3 {
		for _, c := range g.Row(y) {
			if c != (api.Cell{Rune: ' '}) {
				t.Errorf("a cell is %v", c)
			}
		}
	}
	g.Write([]byte("\x1b[5b\tab\x1b8c\x1b[3;1Hd\ne\x1b[6n")) // no last rune, tab stops, wrap, what was saved, all rows the region
	if shown(g) != "b        |d        | e       " || g.Past() != 2 || string(g.Take()) != "\x1b[3;3R" {
		t.Errorf("%q, past %q", shown(g), gone(g))
	}
}

func TestP6_1_Strings(t *testing.T) {
	for _, x := range []struct{ in, title string }{
		{"\x1b]0;one\x07", "one"},
		{"\x1b]2;two\x1b\\", "two"},
		{"\x1b]0;\x07", ""},
		{"\x1b]2;a\x07\x1b]2;\x07", ""},
		{"\x1b]0;a\x07\x1b]1;b\x07\x1b]3;c\x07\x1b]02;d\x07\x1b];e\x07\x1b]0\x07\x1b]\x07\x1b]2:f\x07\x1b] 0;g\x07", "a"},
		{"\x1b]0;a\x07\x1bP0;b\x07\x1bX2;c\x07\x1b^0;d\x07\x1b_0;e\x07", "a"},
		{"\x1b]0;a;b;0;\x07", "a;b;0;"},
		{"\x1b]2;\xff\xe4\x07", "\xff\xe4"},
		{"\x1b]2;" + strings.Repeat("x", 300) + "\x07", strings.Repeat("x", 254)},
		{"\x1b]0;a\x18\x1b]0;b\x1b[m", ""},
	} {
		if g := written(t, 3, 2, 0, x.in); g.Title() != x.title {
			t.Errorf("%q: %q, not %q", x.in, g.Title(), x.title)
		}
	}
}

func TestP6_1_Replies(t *testing.T) {
	for _, x := range []struct{ in, out string }{
		{"\x1b[5n", "\x1b[0n"},
		{"\x1b[6n", "\x1b[1;1R"},
		{"\x1b[3;4H\x1b[6;5n", "\x1b[3;4R"},
		{"abcdefghi\x1b[6n", "\x1b[1;9R"}, // a cursor that is held
		{"\x1b[n\x1b[0n\x1b[1n\x1b[7n\x1b[?6n\x1b[>5n\x1b[5!n", ""},
		{"\x1b[c\x1b[0c", "\x1b[?1;2c\x1b[?1;2c"},
		{"\x1b[1c\x1b[?c\x1b[>c\x1b[=0c\x1b[ c", ""},
		{"\x1b[2;3r\x1b[?6h\x1b[6n\x1b[2;2H\x1b[6n\x1b[?6l\x1b[6n", "\x1b[1;1R\x1b[2;2R\x1b[1;1R"},
		{"\x1b[3;4r\x1b[?6h\x1b8\x1b[6n", "\x1b[-1;1R"}, // above the region
	} {
		g := written(t, 9, 4, 0, x.in)
		if got := g.Take(); string(got) != x.out || len(g.Take()) != 0 {
			t.Errorf("%q: %q, not %q", x.in, got, x.out)
		}
	}
}

func TestP6_1_RepliesBeyondMaxTextAreDropped(t *testing.T) {
	repeat := func(s string, n int) []byte { return []byte(strings.Repeat(s, n)) }
	g := grid.New(9, 4, 0)
	g.Write(repeat("\x1b[5n", 1023))
	g.Write([]byte("\x1b[c\x1b[6n\x1b[5n\x1b[5n")) // but the first [5n they go beyond
	if got := string(g.Take()); got != strings.Repeat("\x1b[0n", 1024) {
		t.Errorf("%d bytes, at the end %q", len(got), got[max(0, len(got)-9):])
	}
	g.Write(repeat("\x1b[c", 600))
	if got := string(g.Take()); got != strings.Repeat("\x1b[?1;2c", 585) {
		t.Errorf("%d bytes", len(got))
	}
	if g.Write([]byte("\x1b[6n")); string(g.Take()) != "\x1b[1;1R" {
		t.Error("behind Take no reply waits")
	}
}

// ahead makes a cursor held on the second row of a grid of 4 times 4.
const ahead = "\x1b[2;1Habcd"

func TestP6_1_WhatLeavesTheCursorHeld(t *testing.T) {
	for _, in := range []string{
		"", "\u0301", "\x07", "\x1b7", "\x1bH", "\x1b[J", "\x1b[1J", "\x1b[2J", "\x1b[3J", "\x1b[4J", "\x1b[K", "\x1b[1K", "\x1b[2K", "\x1b[3K",
		"\x1b[g", "\x1b[3g", "\x1b[5g", "\x1b[m", "\x1b[31m", "\x1b[s", "\x1b[5n", "\x1b[6n", "\x1b[n", "\x1b[c", "\x1b[1c", "\x1b[4l", "\x1b[4h\x1b[4l", "\x1b[20h", "\x1b[h", "\x1b[l",
		"\x1b[?7h", "\x1b[?25l", "\x1b[?25h", "\x1b[?12;2004h", "\x1b[?h", "\x1b[?l", "\x1b]0;x\x07", "\x1b]9;x\x07", "\x1bPx\x1b\\", "\x1b_x\x07",
		"\x00", "\x0e", "\x1f", "\x7f", "\x18", "\x1bZ", "\x1b=", "\x1b(B", "\x1b#8", "\x1b[z", "\x1b[t", "\x1b[!p", "\x1b[1 A", "\x1b[>c", "\x1b[>4h", "\x1b[=1A", "\x1b[?J", "\x1b[?1m", "\x1b[?6n", "\x1b[?7$h", "\x1b[1:2A",
	} {
		g := written(t, 4, 4, 5, ahead+in)
		x, y, _ := g.Cursor()
		g.Write([]byte("Z"))
		if x != 3 || y != 1 || g.Row(2)[0].Rune != 'Z' || g.Row(1)[3].Rune == 'Z' {
			t.Errorf("%q: behind it %q, from %d, %d on", in, shown(g), x, y)
		}
	}
}

func TestP6_1_WhatEndsTheCursorsBeingHeld(t *testing.T) {
	for _, in := range []string{
		"\b", "\t", "\n", "\v", "\f", "\r", "\x1b8", "\x1bD", "\x1bE", "\x1bM", "\x1bc",
		"\x1b[A", "\x1b[B", "\x1b[C", "\x1b[D", "\x1b[E", "\x1b[F", "\x1b[G", "\x1b[4G", "\x1b[d", "\x1b[2d", "\x1b[H", "\x1b[2;4H", "\x1b[2;4f",
		"\x1b[X", "\x1b[P", "\x1b[@", "\x1b[L", "\x1b[M", "\x1b[S", "\x1b[T", "\x1b[r", "\x1b[3;2r", "\x1b[u", "\x1b7\x1b8", "\x1b[s\x1b[u",
		"\x1b[?6h", "\x1b[?6l", "\x1b[?7l", "\x1b[?7l\x1b[?7h", "\x1b[?1049h", "\x1b[?1049l", "\x1b[?25;7l", "\x1b[?1049;25h", "\x1b[?12;6h",
	} {
		g := written(t, 4, 4, 5, ahead+in)
		x, y, _ := g.Cursor()
		g.Write([]byte("Z"))
		if g.Row(y)[x].Rune != 'Z' {
			t.Errorf("%q: behind it %q, from %d, %d on", in, shown(g), x, y)
		}
	}
	// Where L and M do nothing, they end it too.
	for _, in := range []string{"\x1b[L", "\x1b[M"} {
		line{3, 3, "\x1b[1;2r\x1b[3;1Habc" + in + "d", "   |   |abd", 2, 2, ""}.holds(t)
	}
}
