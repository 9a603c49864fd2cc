package grid_test

import (
	"testing"

	"casement/api"
	"casement/grid"
)

// resized is some bytes, a size behind them, bytes behind that, and what comes of it.
type resized struct {
	w, h   int
	in     string
	w2, h2 int
	behind string
	rows   string
	x, y   int
	past   string
}

func (r resized) holds(t *testing.T) {
	t.Helper()
	g, m := grid.New(r.w, r.h, 9), newModel(r.w, r.h, 9)
	g.Write([]byte(r.in))
	m.write([]byte(r.in))
	g.Resize(r.w2, r.h2)
	m.resize(r.w2, r.h2)
	g.Write([]byte(r.behind))
	m.write([]byte(r.behind))
	follows(t, g, m, r)
	x, y, _ := g.Cursor()
	if shown(g) != r.rows || x != r.x || y != r.y || gone(g) != r.past {
		t.Errorf("%q, %d, %d, %q: %q, cursor %d, %d, past %q; not %q, %d, %d, %q", r.in, r.w2, r.h2, r.behind, shown(g), x, y, gone(g), r.rows, r.x, r.y, r.past)
	}
}

func TestP6_1_Resize(t *testing.T) {
	const four = "ab\r\ncd\r\nef\r\ngh"
	for _, r := range []resized{
		{2, 4, four, 2, 2, "", "ef|gh", 1, 1, "ab|cd"},
		{2, 4, four, 1, 2, "", "e|g", 0, 1, "ab|cd"}, // past rows stay as they are
		{2, 4, four, 3, 3, "", "cd |ef |gh ", 1, 2, "ab"},
		{2, 4, four + "\x1b[H", 2, 2, "", "ab|cd", 0, 0, ""}, // those below the cursor go first
		{2, 4, four + "\x1b[2H", 2, 2, "", "ab|cd", 0, 1, ""},
		{2, 4, four + "\x1b[3H", 2, 2, "", "cd|ef", 0, 1, "ab"},
		{2, 4, four + "\x1b[3H", 2, 1, "", "ef", 0, 0, "ab|cd"},
		{2, 4, four, 2, 6, "", "ab|cd|ef|gh|  |  ", 1, 3, ""},
		{2, 4, four, 4, 4, "", "ab  |cd  |ef  |gh  ", 1, 3, ""},
		{2, 2, "a", 3, 3, "bcd", "abc|d  |   ", 1, 1, ""},
		// it isn't held any more
		{2, 2, "ab", 3, 2, "c", "ac |   ", 2, 0, ""},
		{2, 2, "ab", 2, 3, "c", "ac|  |  ", 1, 0, ""},
		{3, 2, "abc", 2, 2, "d", "ad|  ", 1, 0, ""},
		// but where nothing happens it is
		{2, 2, "ab", 2, 2, "c", "ab|c ", 1, 1, ""},
		{1, 2, "a", -7, 2, "c", "a|c", 0, 1, ""},
		// wide runes that are cut
		{4, 1, "a\u4e2d", 2, 1, "", "a ", 1, 0, ""},
		{4, 1, "\u4e2d\u4e2d", 3, 1, "", "\u4e2d~ ", 2, 0, ""},
		{4, 1, "\u4e2d\u4e2d", 1, 1, "", " ", 0, 0, ""},
		{4, 1, "\u4e2d\u4e2d", 1, 1, "\x1b[bx", "x", 0, 0, ""}, // the last rune doesn't fit any more
		{4, 1, "\u4e2d\u4e2d", 2, 2, "\x1b[b", "\u4e2d~|\u4e2d~", 1, 1, ""},
		// the region and the tab stops are as at first
		{2, 4, four + "\x1b[2;3r", 2, 3, "\x1b[3;1H\n", "cd|ef|  ", 0, 2, "ab"},
		{20, 1, "\x1b[3g\x1b[4G\x1bH\r", 19, 1, "\tx", "        x          ", 9, 0, ""},
		{4, 1, "", 20, 1, "\tx\ty", "        x       y   ", 17, 0, ""},
		{20, 1, "\x1b[3g", 20, 1, "\tx", "                   x", 19, 0, ""},
		// modes stay
		{3, 2, "\x1b[?7l", 2, 2, "abc", "ac|  ", 1, 0, ""},
		{3, 2, "ab\x1b[H\x1b[4h", 4, 2, "c", "cab |    ", 1, 0, ""},
		{3, 3, "\x1b[2;3r\x1b[?6h", 3, 4, "\x1b[2;3r\x1b[Hx", "   |x  |   |   ", 1, 1, ""},
		// what is saved is held to the screen when it is restored
		{4, 4, "\x1b[4;4H\x1b7\x1b[H", 2, 2, "\x1b8x", "  | x", 1, 1, ""},
		{4, 4, "\x1b[3;4H\x1b7\x1b[H", 9, 9, "\x1b8x", "         |         |   x     |         |         |         |         |         |         ", 4, 2, ""},
		// bytes that wait, wait on
		{3, 1, "\xe4\xb8", 4, 1, "\xad\x1b[31", "\u4e2d~  ", 2, 0, ""},
	} {
		r.holds(t)
	}
}

func TestP6_1_ResizeBackAndForth(t *testing.T) {
	g, m := grid.New(4, 4, 9), newModel(4, 4, 9)
	in := "\x1b[4;4H\x1b7\x1b[Hab\r\ncd"
	g.Write([]byte(in))
	m.write([]byte(in))
	for _, size := range [][2]int{{2, 2}, {1, 1}, {4, 4}} {
		g.Resize(size[0], size[1])
		m.resize(size[0], size[1])
		follows(t, g, m, size)
	}
	if g.Write([]byte("\x1b8x")); shown(g) != "c   |    |    |   x" || gone(g) != "ab" {
		t.Errorf("%q, past %q", shown(g), gone(g)) // the saved cursor was never shown, and lost nothing
	}
}

func TestP6_1_ResizeOfTheOtherScreen(t *testing.T) {
	for _, r := range []resized{
		// the other one is shown: its rows from the top are lost; the main one's go from its end
		{1, 4, "a\r\nb\r\nc\r\nd\x1b[?1049h\x1b[Hw\r\nx\r\ny\r\nz", 1, 2, "", "y|z", 0, 1, ""},
		{1, 4, "a\r\nb\r\nc\r\nd\x1b[?1049h\x1b[Hw\r\nx\r\ny\r\nz", 1, 2, "\x1b[?1049l", "a|b", 0, 1, ""},
		{1, 4, "a\r\nb\r\nc\r\nd\x1b[H\x1b[?1049h\x1b[4H", 1, 2, "\x1b[?1049l", "a|b", 0, 0, ""},
		{2, 2, "ab\r\ncd\x1b[?1049h\x1b[H", 3, 3, "\x1b[?1049l", "ab |cd |   ", 1, 1, ""},
		// the main one is shown: the other one is cleared when it is shown
		{2, 2, "\x1b[?1049hxy\x1b[?1049lab", 1, 1, "\x1b[?1049h", " ", 0, 0, ""},
	} {
		r.holds(t)
	}
}

func TestP6_1_ResizeAddsBareBlanks(t *testing.T) {
	g := written(t, 2, 1, 0, "\x1b[1;31;42mab\x1b[K")
	g.Resize(3, 2)
	if g.Row(0)[2] != (api.Cell{Rune: ' '}) || g.Row(1)[0] != (api.Cell{Rune: ' '}) || g.Row(1)[2] != (api.Cell{Rune: ' '}) {
		t.Errorf("%v, %v", g.Row(0), g.Row(1))
	}
	g = written(t, 4, 1, 0, "\x1b[31m\u4e2d\u4e2d")
	g.Resize(3, 1)
	if g.Row(0)[2] != (api.Cell{Rune: ' ', Style: api.Style{Fg: 2}}) {
		t.Errorf("%v", g.Row(0))
	}
}

func TestP6_1_ResizeKeepsTheRest(t *testing.T) {
	g := written(t, 4, 2, 3, "a\r\n\n\x07\x1b[5n\x1b]0;t\x07\x1b[31m\x1b[?25l")
	g.Resize(9, 9)
	if _, _, on := g.Cursor(); on || g.Bells() != 1 || g.Title() != "t" || g.Style() != (api.Style{Fg: 2}) || gone(g) != "a   " || string(g.Take()) != "\x1b[0n" {
		t.Error("something has happened besides")
	}
}
