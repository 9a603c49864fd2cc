package grid_test

import (
	"strings"
	"testing"

	"casement/api"
	"casement/grid"
)

func TestP6_1_Moves(t *testing.T) {
	for _, x := range []struct {
		in   string
		x, y int
	}{
		{"\x1b[3;3H", 2, 2}, {"\x1b[3;3f", 2, 2}, {"\x1b[H", 0, 0}, {"\x1b[0;0H", 0, 0}, {"\x1b[2H", 0, 1}, {"\x1b[;2H", 1, 0}, {"\x1b[99;99H", 6, 5}, {"\x1b[6;7H", 6, 5}, {"\x1b[7;8H", 6, 5},
		{"\x1b[3;3H\x1b[A", 2, 1}, {"\x1b[3;3H\x1b[0A", 2, 1}, {"\x1b[3;3H\x1b[2A", 2, 0}, {"\x1b[3;3H\x1b[9A", 2, 0},
		{"\x1b[3;3H\x1b[B", 2, 3}, {"\x1b[3;3H\x1b[3B", 2, 5}, {"\x1b[3;3H\x1b[9B", 2, 5},
		{"\x1b[3;3H\x1b[C", 3, 2}, {"\x1b[3;3H\x1b[4C", 6, 2}, {"\x1b[3;3H\x1b[9999C", 6, 2},
		{"\x1b[3;3H\x1b[D", 1, 2}, {"\x1b[3;3H\x1b[2D", 0, 2}, {"\x1b[3;3H\x1b[9999D", 0, 2},
		{"\x1b[3;3H\x1b[E", 0, 3}, {"\x1b[3;3H\x1b[9E", 0, 5}, {"\x1b[3;3H\x1b[F", 0, 1}, {"\x1b[3;3H\x1b[9F", 0, 0},
		{"\x1b[3;3H\x1b[G", 0, 2}, {"\x1b[3;3H\x1b[5G", 4, 2}, {"\x1b[3;3H\x1b[9G", 6, 2},
		{"\x1b[3;3H\x1b[d", 2, 0}, {"\x1b[3;3H\x1b[5d", 2, 4}, {"\x1b[3;3H\x1b[9d", 2, 5},
		// within a region from 2 to 4, above it and below it
		{"\x1b[2;4r", 0, 0}, {"\x1b[2;4r\x1b[3;3H\x1b[9A", 2, 1}, {"\x1b[2;4r\x1b[2;3H\x1b[9A", 2, 1}, {"\x1b[2;4r\x1b[1;3H\x1b[9A", 2, 0}, {"\x1b[2;4r\x1b[6;3H\x1b[9A", 2, 1},
		{"\x1b[2;4r\x1b[3;3H\x1b[9B", 2, 3}, {"\x1b[2;4r\x1b[4;3H\x1b[9B", 2, 3}, {"\x1b[2;4r\x1b[5;3H\x1b[9B", 2, 5}, {"\x1b[2;4r\x1b[1;3H\x1b[9B", 2, 3},
		{"\x1b[2;4r\x1b[3;3H\x1b[9E", 0, 3}, {"\x1b[2;4r\x1b[3;3H\x1b[9F", 0, 1},
		// with origin on
		{"\x1b[2;4r\x1b[?6h", 0, 1}, {"\x1b[2;4r\x1b[?6h\x1b[2;2H", 1, 2}, {"\x1b[2;4r\x1b[?6h\x1b[9;2H", 1, 3}, {"\x1b[2;4r\x1b[?6h\x1b[3d", 0, 3}, {"\x1b[2;4r\x1b[?6h\x1b[4d", 0, 3}, {"\x1b[2;4r\x1b[?6h\x1b[2;2f", 1, 2},
		{"\x1b[2;4r\x1b[?6h\x1b[3;5r", 0, 2}, {"\x1b[2;4r\x1b[?6h\x1b[2;2H\x1b[?6l", 0, 0}, {"\x1b[?6h\x1b[9;9H", 6, 5},
		// saved
		{"\x1b[2;3H\x1b[s\x1b[5;5H\x1b[u", 2, 1}, {"\x1b[2;3H\x1b7\x1b[5;5H\x1b[u\x1b[H\x1b8", 2, 1}, {"\x1b[2;3H\x1b[9;9s\x1b[5;5H\x1b[3u", 2, 1},
		// what isn't known
		{"\x1b[3;3H\x1b[?A\x1b[>B\x1b[2 C\x1b[?5H\x1b[<G\x1b[=d", 2, 2},
	} {
		g := written(t, 7, 6, 0, x.in)
		if p, q, _ := g.Cursor(); p != x.x || q != x.y || shown(g) != shown(grid.New(7, 6, 0)) {
			t.Errorf("%q: %d, %d, not %d, %d", x.in, p, q, x.x, x.y)
		}
	}
}

const nine = "abc\r\ndef\r\nghi"

func TestP6_1_Clears(t *testing.T) {
	for _, l := range []line{
		{3, 3, nine + "\x1b[2;2H\x1b[J", "abc|d  |   ", 1, 1, ""},
		{3, 3, nine + "\x1b[2;2H\x1b[0J", "abc|d  |   ", 1, 1, ""},
		{3, 3, nine + "\x1b[2;2H\x1b[1J", "   |  f|ghi", 1, 1, ""},
		{3, 3, nine + "\x1b[2;2H\x1b[2J", "   |   |   ", 1, 1, ""},
		{3, 3, nine + "\x1b[2;2H\x1b[4J\x1b[9J\x1b[3;0J", "abc|def|ghi", 1, 1, ""},
		{3, 3, nine + "\x1b[H\x1b[1J", " bc|def|ghi", 0, 0, ""},
		{3, 3, nine + "\x1b[J", "abc|def|gh ", 2, 2, ""},
		{3, 3, nine + "\x1b[2;2H\x1b[K", "abc|d  |ghi", 1, 1, ""},
		{3, 3, nine + "\x1b[2;2H\x1b[1K", "abc|  f|ghi", 1, 1, ""},
		{3, 3, nine + "\x1b[2;2H\x1b[2K", "abc|   |ghi", 1, 1, ""},
		{3, 3, nine + "\x1b[2;2H\x1b[3K\x1b[4K\x1b[?K\x1b[1!K", "abc|def|ghi", 1, 1, ""},
		{3, 3, nine + "\x1b[2;2H\x1b[X", "abc|d f|ghi", 1, 1, ""},
		{3, 3, nine + "\x1b[2;2H\x1b[0X", "abc|d f|ghi", 1, 1, ""},
		{3, 3, nine + "\x1b[2;2H\x1b[9999X", "abc|d  |ghi", 1, 1, ""},
		{3, 3, nine + "\x1b[2;1H\x1b[P", "abc|ef |ghi", 0, 1, ""},
		{3, 3, nine + "\x1b[2;2H\x1b[2P", "abc|d  |ghi", 1, 1, ""},
		{3, 3, nine + "\x1b[2;2H\x1b[9999P", "abc|d  |ghi", 1, 1, ""},
		{3, 3, nine + "\x1b[2;1H\x1b[@", "abc| de|ghi", 0, 1, ""},
		{3, 3, nine + "\x1b[2;2H\x1b[2@", "abc|d  |ghi", 1, 1, ""},
		{3, 3, nine + "\x1b[2;2H\x1b[9999@", "abc|d  |ghi", 1, 1, ""},
		{4, 1, "\u4e2d\u4e2d\x1b[2G\x1b[X", "  \u4e2d~", 1, 0, ""},
		{4, 1, "\u4e2d\u4e2d\x1b[3G\x1b[1K", "    ", 2, 0, ""},
		{4, 1, "\u4e2d\u4e2d\x1b[2G\x1b[P", " \u4e2d~ ", 1, 0, ""},
		{4, 1, "\u4e2d\u4e2d\x1b[2G\x1b[2P", "\u4e2d~  ", 1, 0, ""}, // the one's first half and the other's second
		{4, 1, "\u4e2d\u4e2d\x1b[3G\x1b[@", "\u4e2d~  ", 2, 0, ""},
	} {
		l.holds(t)
	}
}

func TestP6_1_WhatIsClearedHasTheBackground(t *testing.T) {
	bare, bg := api.Cell{Rune: ' '}, api.Cell{Rune: ' ', Style: api.Style{Bg: 3}}
	for _, x := range []struct {
		in   string
		x, y int
		want api.Cell
	}{
		{"\x1b[J", 2, 2, bg}, {"\x1b[J", 0, 1, bare}, {"\x1b[1J", 2, 0, bg}, {"\x1b[2J", 2, 2, bg}, {"\x1b[K", 2, 1, bg}, {"\x1b[1K", 0, 1, bg}, {"\x1b[2K", 2, 1, bg},
		{"\x1b[X", 1, 1, bg}, {"\x1b[P", 2, 1, bg}, {"\x1b[@", 1, 1, bg}, {"\x1b[L", 0, 1, bg}, {"\x1b[M", 0, 2, bg}, {"\x1b[S", 0, 2, bg}, {"\x1b[T", 2, 0, bg},
		{"\x1b[3;1H\n", 2, 2, bg}, {"\x1b[H\x1bM", 2, 0, bg}, {"\x1b[?1049h", 1, 1, bg}, {"\x1bc", 1, 1, bare}, {"\x1b[3;3Hab", 1, 2, bg},
	} {
		g := written(t, 3, 3, 0, "\x1b[2;2H\x1b[1;31;42m"+x.in)
		if got := g.Row(x.y)[x.x]; got != x.want {
			t.Errorf("%q: %v, not %v", x.in, got, x.want)
		}
	}
}

func TestP6_1_Scrolls(t *testing.T) {
	const four = "a\r\nb\r\nc\r\nd"
	for _, l := range []line{
		{1, 4, four + "\x1b[S", "b|c|d| ", 0, 3, "a"},
		{1, 4, four + "\x1b[3S", "d| | | ", 0, 3, "a|b|c"},
		{1, 4, four + "\x1b[4S", " | | | ", 0, 3, "a|b|c|d"},
		{1, 4, four + "\x1b[9999S", " | | | ", 0, 3, "a|b|c|d"},
		{1, 4, four + "\x1b[T", " |a|b|c", 0, 3, ""},
		{1, 4, four + "\x1b[9999T", " | | | ", 0, 3, ""},
		{1, 4, four + "\x1b[2;3r\x1b[S", "a|c| |d", 0, 0, ""},
		{1, 4, four + "\x1b[2;3r\x1b[T", "a| |b|d", 0, 0, ""},
		{1, 4, four + "\x1b[1;3r\x1b[2S", "c| | |d", 0, 0, "a|b"}, // a region whose end isn't the screen's
		{1, 4, four + "\x1b[1;2r\x1b[9S", " | |c|d", 0, 0, "a|b"},
		{1, 4, four + "\x1b[1;3r\x1b[3;1H\n", "b|c| |d", 0, 2, "a"},
		{1, 4, four + "\x1b[1;3r\x1b[4;1H\n", "a|b|c|d", 0, 3, ""},
		{1, 4, four + "\x1b[2;3r\x1b[3;1H\n", "a|c| |d", 0, 2, ""},
		{1, 4, four + "\x1b[2;3r\x1b[1;1H\n\n\n", "a|c| |d", 0, 2, ""},
		{1, 4, four + "\x1b[2;3r\x1b[4;1H\x1bM\x1bM\x1bM", "a| |b|d", 0, 1, ""},
		{1, 4, four + "\x1b[2H\x1b[L", "a| |b|c", 0, 1, ""},
		{1, 4, four + "\x1b[2H\x1b[2L", "a| | |b", 0, 1, ""},
		{1, 4, four + "\x1b[2H\x1b[9L", "a| | | ", 0, 1, ""},
		{1, 4, four + "\x1b[2H\x1b[M", "a|c|d| ", 0, 1, ""},
		{1, 4, four + "\x1b[2H\x1b[9M", "a| | | ", 0, 1, ""},
		{1, 4, four + "\x1b[H\x1b[2M", "c|d| | ", 0, 0, ""}, // nothing becomes past
		{2, 4, four + "\x1b[2;3r\x1b[3;2H\x1b[L", "a |b |  |d ", 0, 2, ""},
		{2, 4, four + "\x1b[2;3r\x1b[2;2H\x1b[M", "a |c |  |d ", 0, 1, ""},
		{2, 4, four + "\x1b[2;3r\x1b[4;2H\x1b[M\x1b[L", "a |b |c |d ", 1, 3, ""},
		{2, 4, four + "\x1b[2;3r\x1b[1;2H\x1b[M\x1b[L", "a |b |c |d ", 1, 0, ""},
		{1, 1, "a\x1b[S", " ", 0, 0, "a"},
		{1, 1, "a\x1b[H\x1bM", " ", 0, 0, ""},
	} {
		l.holds(t)
	}
}

func TestP6_1_Regions(t *testing.T) {
	for _, x := range []struct{ in, rows string }{
		{"\x1b[2;3r", "a|c| |d|e"},
		{"\x1b[r", "b|c|d|e| "},
		{"\x1b[0;0r", "b|c|d|e| "},
		{"\x1b[2r", "a|c|d|e| "},
		{"\x1b[;2r", "b| |c|d|e"},
		{"\x1b[2;5r", "a|c|d|e| "},
		{"\x1b[2;6r", "a|c|d|e| "}, // beyond the screen: its end
		{"\x1b[2;9999r", "a|c|d|e| "},
		{"\x1b[4;5r", "a|b|c|e| "},
		{"\x1b[2;3r\x1b[2;2r", "a|c| |d|e"}, // one row is none
		{"\x1b[2;3r\x1b[4;2r", "a|c| |d|e"},
		{"\x1b[2;3r\x1b[5r", "a|c| |d|e"},
		{"\x1b[2;3r\x1b[9;9r", "a|c| |d|e"},
		{"\x1b[2;3r\x1b[?1;5r\x1b[1;5!r", "a|c| |d|e"},
		{"\x1b[2;3r\x1b[r", "b|c|d|e| "},
	} {
		if g := written(t, 1, 5, 0, "a\r\nb\r\nc\r\nd\r\ne"+x.in+"\x1b[S"); shown(g) != x.rows {
			t.Errorf("%q: %q, not %q", x.in, shown(g), x.rows)
		}
	}
	// One that may not be leaves the cursor, too.
	line{3, 3, "\x1b[2;2H\x1b[3;2rx", "   | x |   ", 2, 1, ""}.holds(t)
	line{3, 3, "\x1b[2;2H\x1b[1;2rx", "x  |   |   ", 1, 0, ""}.holds(t)
	line{3, 1, "a\x1b[rx", "ax ", 2, 0, ""}.holds(t)
}

func TestP6_1_Repeats(t *testing.T) {
	for _, l := range []line{
		{4, 1, "a\x1b[b", "aa  ", 2, 0, ""},
		{4, 1, "a\x1b[0b", "aa  ", 2, 0, ""},
		{4, 1, "\x1b[3b", "    ", 0, 0, ""},
		{4, 2, "a\x1b[5b", "aaaa|aa  ", 2, 1, ""},
		{4, 2, "abcd\x1b[b", "abcd|d   ", 1, 1, ""}, // from being held on
		{4, 2, "abc\x1b[b\x1b[b", "abcc|c   ", 1, 1, ""},
		{4, 2, "\u4e2d\x1b[2b", "\u4e2d~\u4e2d~|\u4e2d~  ", 2, 1, ""},
		{4, 1, "a\u0301\x1b[b", "aa  ", 2, 0, ""},                     // what has no width wasn't written
		{1, 2, "a\u4e2d\x1b[b", "a|a", 0, 1, ""},                      // nor what is too wide
		{4, 1, "a\x1b[H\x1b[2J\x07\t\x1b[G\x1b[2b", "aa  ", 2, 0, ""}, // however long ago
		{4, 2, "\x1b[?7la\x1b[9b", "aaaa|    ", 3, 0, ""},
		{4, 1, "b\x1b[Ha\x1b[H\x1b[4h\x1b[b", "aa  ", 1, 0, ""},
		// a row that goes has lost the half that was written over
		{4, 1, "\u4e2d\u4e2d\x1b[2Ga\x1b[3b", "a   ", 1, 0, " aaa"},
	} {
		l.holds(t)
	}
	g := written(t, 4, 1, 9, "a\x1b[31;1m\u4e2d\x1b[H\x1b[44m\x1b[2Cb\x1b[H\x1b[9b")
	if text(g.Old(0)) != "bbbb" || g.Old(1)[3].Style != (api.Style{Fg: 2, Bg: 5, Attr: 1}) {
		t.Errorf("%q, %v", gone(g), g.Old(1))
	}
	for _, n := range []string{"199", "200", "201", "9999"} {
		g := written(t, 200, 3, 0, "a\x1b["+n+"b")
		if x, y, _ := g.Cursor(); n == "199" && (x != 199 || y != 0) || n != "199" && (x != 1 || y != 1) {
			t.Errorf("%s times: at %d, %d", n, x, y)
		}
	}
}

func TestP6_1_Styles(t *testing.T) {
	for _, x := range []struct {
		in   string
		want api.Style
	}{
		{"\x1b[31m", api.Style{Fg: 2}},
		{"\x1b[31;42;1m", api.Style{Fg: 2, Bg: 3, Attr: 1}},
		{"\x1b[31m\x1b[1m\x1b[42m", api.Style{Fg: 2, Bg: 3, Attr: 1}},
		{"\x1b[31m\x1b[m", api.Style{}},
		{"\x1b[31m\x1b[0m", api.Style{}},
		{"\x1b[38;5;200;48;2;1;2;3m", api.Style{Fg: 201, Bg: api.Rgb + 66051}},
		{"\x1b[31m\x1b[?m\x1b[>1m\x1b[1 m\x1b[999m", api.Style{Fg: 2}},
		{"\x1b[31m\x1b[38;7;1m", api.Style{Fg: 2}},
	} {
		g := written(t, 3, 1, 0, x.in+"x")
		if g.Style() != x.want || g.Row(0)[0].Style != x.want || g.Row(0)[1].Style != (api.Style{}) {
			t.Errorf("%q: %v, %v", x.in, g.Style(), g.Row(0))
		}
	}
}

func TestP6_1_ShownCursor(t *testing.T) {
	for _, x := range []struct {
		in string
		on bool
	}{
		{"", true}, {"\x1b[?25l", false}, {"\x1b[?25l\x1b[?25h", true}, {"\x1b[25l", true}, {"\x1b[?7;25;99l", false}, {"\x1b[?25l\x1b[?1049h", false}, {"\x1b[?25l\x1b8", false}, {"\x1b[?25l\x1bc", true}, {"\x1b[>25l", true}, {"\x1b[?25!l", true},
	} {
		if _, _, on := written(t, 3, 1, 0, x.in).Cursor(); on != x.on {
			t.Errorf("%q: %v", x.in, on)
		}
	}
}

func TestP6_1_TheOtherScreen(t *testing.T) {
	for _, l := range []line{
		{3, 2, "ab\x1b[?1049h", "   |   ", 2, 0, ""},
		{3, 2, "ab\x1b[?1049hx\x1b[2;2Hy", "  x| y ", 2, 1, ""},
		{3, 2, "ab\x1b[?1049hx\x1b[2;2Hy\x1b[?1049lc", "abc|   ", 2, 0, ""},
		{3, 2, "ab\x1b[?1049hx\x1b[?1049h\x1b[?1049hy", "  y|   ", 2, 0, ""}, // shown already: nothing is cleared or saved
		{3, 2, "ab\x1b[?1049hx\x1b[H\x1b[?1049h\x1b[2;1H\x1b[?1049lz", "abz|   ", 2, 0, ""},
		{3, 2, "ab\x1b[?1049lc", "abc|   ", 2, 0, ""}, // the main one is shown already: nothing is restored
		{3, 2, "\x1b7ab\x1b[?1049lc", "abc|   ", 2, 0, ""},
		{3, 2, "ab\x1b[?1049hx\x1b[?1049l\x1b[?1049h", "   |   ", 2, 0, ""}, // cleared again
		{3, 2, "\x1b[?1049hx\n\n\n\x1b[9S", "   |   ", 1, 1, ""},            // nothing becomes past
		{3, 2, "a\x1b[?1049h\n\n\x1b[?1049l\x1b[2H\n", "   |   ", 0, 1, "a  "},
		{3, 2, "\x1b[2;2H\x1b[?1049h\x1b[H\x1b7\x1b[?1049l\x1b8x", "   | x ", 2, 1, ""}, // each has its own saved cursor
		{3, 2, "\x1b[?1049h\x1b[2;2H\x1b7\x1b[?1049l\x1b[?1049h\x1b8x", "   | x ", 2, 1, ""},
		{3, 2, "ab\x1b[?47h\x1b[?1047hc", "abc|   ", 2, 0, ""},
		{3, 2, "ab\x1b[1049hc", "abc|   ", 2, 0, ""},
		{3, 2, "ab\x1b[?1049;1049hc", "  c|   ", 2, 0, ""},
		{3, 3, "\x1b[2;3r\x1b[2;2H\x1b[?6;1049h\x1b[2;2Hx\x1b[?1049ly", "   |y  |   ", 1, 1, ""}, // in order: origin puts the cursor first
		{3, 3, "\x1b[2;3r\x1b[?6h\x1b[2;2H\x1b[?1049;6hx\x1b[?1049ly", "   |   | y ", 2, 2, ""},
	} {
		l.holds(t)
	}
	g := written(t, 3, 2, 5, "\x1b[31m\x1b[?1049h\x1b[32m")
	if !g.Alt() || g.Style() != (api.Style{Fg: 3}) {
		t.Errorf("%v, %v", g.Alt(), g.Style())
	}
	if g.Write([]byte("\x1b[?1049l")); g.Alt() || g.Style() != (api.Style{Fg: 2}) {
		t.Errorf("%v, %v", g.Alt(), g.Style())
	}
}

func TestP6_1_ThePastIsEmptied(t *testing.T) {
	for _, x := range []struct {
		in   string
		past string
	}{
		{"a\r\nb\r\nc\x1b[3J", ""},
		{"a\r\nb\r\nc\x1b[3J\r\nd", "b "},
		{"a\r\nb\r\nc\x1b[?1049h\x1b[3J", ""},
		{"a\r\nb\r\nc\x1b[2J\x1b[1J\x1b[J\x1b[3K\x1b[?3J", "a "},
		{strings.Repeat("a\r\n", 20) + "b\r\nc\x1b[3J" + strings.Repeat("\r\nd", 3), "b |c |d "},
	} {
		if g := written(t, 2, 2, 3, x.in); gone(g) != x.past {
			t.Errorf("%q: %q, not %q", x.in, gone(g), x.past)
		}
	}
}
