package paint_test

import (
	"fmt"
	"math"
	"strings"
	"testing"

	"casement/api"
	"casement/paint"
)

// shows holds Paint to a text, and to the model.
func shows(t *testing.T, what string, w, h int, want string, panes ...paint.Pane) paint.Screen {
	t.Helper()
	s := paints(t, w, h, panes)
	if got := text(s); got != want {
		t.Errorf("%s: %q, not %q", what, got, want)
	}
	return s
}

func TestP21_1_PaintTable(t *testing.T) {
	shows(t, "no pane", 3, 2, "   |   |")
	shows(t, "a pane below another one", 4, 1, "acd |", pane(at(0, 0, 2, 1), 0, "ab"), pane(at(1, 0, 2, 1), 1, "cd"))
	shows(t, "by rising Z", 4, 1, "acd |", pane(at(1, 0, 2, 1), 1, "cd"), pane(at(0, 0, 2, 1), 0, "ab"))
	shows(t, "of one Z, in their order", 4, 1, "abd |", pane(at(1, 0, 2, 1), 1, "cd"), pane(at(0, 0, 2, 1), 1, "ab"))
	shows(t, "Z at the ends of int", 1, 1, "c|", pane(at(0, 0, 1, 1), math.MaxInt, "c"), pane(at(0, 0, 1, 1), math.MinInt, "a"), pane(at(0, 0, 1, 1), 0, "b"))
	shows(t, "half a wide rune", 1, 1, " |", pane(at(0, 0, 1, 1), 0, "中~"))
	shows(t, "half a wide rune on a wider screen", 3, 1, "   |", pane(at(0, 0, 1, 1), 0, "中~"))
	shows(t, "the screen's end in a wide rune", 3, 1, "中~ |", pane(at(0, 0, 4, 1), 0, "中~中~"))
	shows(t, "the screen's beginning in a wide rune", 3, 1, " 中~|", pane(at(-1, 0, 4, 1), 0, "中~中~"))
	shows(t, "a pane over halves", 4, 1, " xy |", pane(at(0, 0, 4, 1), 0, "中~中~"), pane(at(1, 0, 2, 1), 1, "xy"))
	shows(t, "no rows", 3, 1, "   |", pane(at(0, 0, 3, 1), 0))
	shows(t, "fewer cells than the rectangle", 4, 3, "  xx|ab x|   x|", pane(at(0, 0, 4, 3), 0, "xxxx", "xxxx", "xxxx"), pane(at(0, 0, 3, 3), 1, "  x", "ab"))
	shows(t, "more cells than the rectangle", 4, 2, "ab  |    |", pane(at(0, 0, 2, 1), 0, "abcd", "efgh"))
	shows(t, "beyond the screen", 3, 2, "fg |jk |", pane(at(-1, -1, 3, 4), 0, "abc", "efg", "ijk", "mno"))
	shows(t, "off the screen", 3, 1, "   |", pane(at(3, 0, 2, 1), 0, "ab"), pane(at(0, 1, 2, 1), 0, "ab"), pane(at(-2, 0, 2, 1), 0, "ab"), pane(at(0, -1, 2, 1), 0, "ab"))
	shows(t, "an empty rectangle", 3, 1, "   |", pane(at(0, 0, 0, 1), 0, "ab"), pane(at(0, 0, 2, -1), 0, "ab"))
	shows(t, "a rectangle that isn't clean", 3, 1, "abc|", pane(at(0, 0, 999, math.MaxInt), 0, "abc"))
	shows(t, "a rectangle far away, cleaned", 3, 1, "   |", pane(at(math.MinInt, math.MinInt, math.MaxInt, math.MaxInt), 0, "abc"))
	shows(t, "sizes that count as others", math.MinInt, 0, "a|", pane(at(0, 0, 2, 2), 0, "ab", "cd"))
}

func TestP21_1_OnlySoManyPanesCount(t *testing.T) {
	var panes []paint.Pane
	for n := range 30 {
		p := pane(at(n, 0, 1, 1), 30-n, "x")
		p.Focus, p.Shown = true, true
		panes = append(panes, p)
	}
	s := shows(t, "30 panes", 30, 1, strings.Repeat("x", 24)+strings.Repeat(" ", 6)+"|", panes...)
	if s.X != 0 || !s.Shown {
		t.Errorf("the cursor is at %d, %v", s.X, s.Shown)
	}
	for n := range panes {
		panes[n].Z = n
	}
	if s = paints(t, 30, 1, panes); s.X != 23 || !s.Shown {
		t.Errorf("the cursor is at %d, %v", s.X, s.Shown)
	}
}

func TestP21_1_CellsThatCountAsBlanks(t *testing.T) {
	red := api.Style{Fg: 2}
	for _, c := range []api.Cell{
		cell(7, red), cell(27, red), cell(127, red), cell(0x9f, red), cell(accent, red), cell(0x200b, red), cell(-1, red), cell(0xd800, red),
		cell(0x110000, red), cell(math.MaxInt32, red), cell(math.MinInt32, red), cell('a', wrongStyles()[0]), cell(wide, wrongStyles()[1]), cell(0, wrongStyles()[2]),
	} {
		p := paint.Pane{Rect: at(0, 0, 3, 1), Rows: [][]api.Cell{{cell('x', red), c, cell('y', red)}}}
		under := paint.Pane{Rect: at(0, 0, 3, 1), Rows: rows(red, "uuu")}
		s := paints(t, 3, 1, []paint.Pane{under, p})
		if got := s.Rows[0][1]; got != cell(32, zero) || s.Rows[0][2] != cell('y', red) {
			t.Errorf("%v becomes %v", c, got)
		}
	}
	for _, style := range append(rightStyles(), wrongStyles()...) {
		s := paints(t, 3, 1, []paint.Pane{{Rect: at(0, 0, 3, 1), Rows: rows(style, "a中~")}})
		want := "   |"
		if rightStyle(style) {
			want = "a中~|"
		}
		if text(s) != want {
			t.Errorf("in %v: %q", style, text(s))
		}
	}
}

func TestP21_1_MendedRows(t *testing.T) {
	red, bold := api.Style{Fg: 2}, api.Style{Attr: 1}
	p := paint.Pane{Rect: at(0, 0, 6, 1), Rows: [][]api.Cell{{cell(wide, red), cell(0, bold), cell(0, bold), cell(wide, red), cell('x', bold), cell(0, red)}}}
	s := shows(t, "halves", 6, 1, "中~  x |", p)
	for x, want := range []api.Style{red, red, bold, red, bold, red} {
		if got := s.Rows[0][x].Style; got != want {
			t.Errorf("column %d is in %v, not %v", x, got, want)
		}
	}
	left := paint.Pane{Rect: at(0, 0, 2, 1), Rows: rows(red, "a中")}
	right := paint.Pane{Rect: at(2, 0, 2, 1), Rows: rows(bold, "~b")}
	if s := shows(t, "halves of two panes", 4, 1, "a中~b|", left, right); s.Rows[0][2] != cell(0, red) {
		t.Errorf("a second half is %v", s.Rows[0][2])
	}
	over := paint.Pane{Rect: at(1, 0, 1, 1), Rows: rows(bold, "~")}
	if s := shows(t, "a second half of another pane", 3, 1, "中~c|", paint.Pane{Rect: at(0, 0, 3, 1), Rows: rows(red, "中~c")}, over); s.Rows[0][1] != cell(0, red) {
		t.Errorf("a second half is %v", s.Rows[0][1])
	}
	late := paint.Pane{Rect: at(1, 0, 1, 1), Z: 2, Rows: rows(bold, "~")}
	mid := paint.Pane{Rect: at(1, 0, 1, 1), Z: 1, Rows: rows(bold, "x")}
	shows(t, "mended once, behind the last pane", 2, 1, "中~|", pane(at(0, 0, 2, 1), 0, "中~"), mid, late)
}

func TestP21_1_Titles(t *testing.T) {
	for _, x := range []struct {
		name string
		w    int
		want string
	}{
		{"", 3, "   "},
		{"abc", 1, " "},
		{"abc", 2, "  "},
		{"abc", 3, " a "},
		{"abc", 4, " ab "},
		{"abc", 5, " abc "},
		{"abc", 7, " abc   "},
		{"中", 3, "   "},
		{"中", 4, " 中~ "},
		{"a中b", 4, " a  "},
		{"a中b", 5, " a中~ "},
		{"a中b", 6, " a中~b "},
		{"中中", 5, " 中~  "},
		{"ab中\x1bcd", 7, " ab中~c "},
		{"a\u0301\x00\x7f\u200bb", 4, " ab "},
		{"\xff\xe4\xb8a", 6, " \ufffd\ufffd\ufffda "},
		{"\xed\xa0\x80", 6, " \ufffd\ufffd\ufffd  "},
		{strings.Repeat("\u0301", 5000) + "x", 3, " x "},
		{strings.Repeat("long", 5000), 6, " long "},
	} {
		s := shows(t, fmt.Sprintf("%.20q in %d", x.name, x.w), x.w+1, 3, x.want+" |"+strings.Repeat(strings.Repeat(" ", x.w+1)+"|", 2), title(at(0, 0, x.w, 2), x.name))
		for y, row := range s.Rows {
			for i, c := range row {
				want := zero
				if y == 0 && i < x.w {
					want = api.Style{Attr: api.Inverse}
				}
				if c.Style != want {
					t.Errorf("%.20q in %d: column %d of row %d is in %v", x.name, x.w, i, y, c.Style)
				}
			}
		}
	}
}

func TestP21_1_TitlesLie(t *testing.T) {
	p := title(at(1, 1, 5, 2), "ab")
	p.Rows, p.Focus, p.Shown = rows(api.Style{Fg: 3}, "xxxxx", "xxxxx"), true, true
	under := pane(at(0, 0, 7, 4), -1, "uuuuuuu", "uuuuuuu", "uuuuuuu", "uuuuuuu")
	s := shows(t, "over a pane", 7, 4, "uuuuuuu|u ab  u|u     u|uuuuuuu|", under, p)
	if s.Shown || s.Rows[2][1] != cell(32, zero) || s.Rows[1][1] != cell(32, api.Style{Attr: 16}) {
		t.Errorf("%v, %v", s.Shown, s.Rows)
	}
	shows(t, "with its beginning off the screen", 3, 1, "bcd|", title(at(-2, 0, 9, 1), "abcd"))
	shows(t, "with its end off the screen", 3, 1, " ab|", title(at(0, 0, 9, 1), "abcd"))
	shows(t, "with its first row off the screen", 3, 2, "   |   |", title(at(0, -1, 9, 3), "abcd"))
	shows(t, "with half a wide rune off the screen", 3, 1, " a |", title(at(0, 0, 9, 1), "a中"))
	shows(t, "in a rectangle that is cleaned", 200, 1, " "+strings.Repeat("a", 198)+" |", title(at(0, 0, 500, 1), strings.Repeat("a", 500)))
	shows(t, "in an empty rectangle", 2, 1, "  |", title(at(0, 0, 0, 1), "ab"))
}

// focused is a pane of blanks that has the focus, and a cursor.
func focused(r api.Rect, z, x, y int) paint.Pane {
	return paint.Pane{Rect: r, Z: z, Focus: true, X: x, Y: y, Shown: true}
}

func TestP21_1_Cursor(t *testing.T) {
	first := focused(at(1, 1, 4, 2), 0, 2, 1)
	hidden, without, named := first, first, first
	hidden.Shown, without.Focus, named.Title = false, false, true
	for _, x := range []struct {
		what  string
		panes []paint.Pane
		x, y  int
		shown bool
	}{
		{"no pane", nil, 0, 0, false},
		{"a pane", []paint.Pane{first}, 3, 2, true},
		{"at its corner", []paint.Pane{focused(at(1, 1, 4, 2), 0, 0, 0)}, 1, 1, true},
		{"at its last cell", []paint.Pane{focused(at(1, 1, 4, 2), 0, 3, 1)}, 4, 2, true},
		{"behind its last column", []paint.Pane{focused(at(1, 1, 4, 2), 0, 4, 1)}, 0, 0, false},
		{"below its last row", []paint.Pane{focused(at(1, 1, 4, 2), 0, 3, 2)}, 0, 0, false},
		{"ahead of its first column", []paint.Pane{focused(at(1, 1, 4, 2), 0, -1, 1)}, 0, 0, false},
		{"above its first row", []paint.Pane{focused(at(1, 1, 4, 2), 0, 1, -1)}, 0, 0, false},
		{"far away", []paint.Pane{focused(at(1, 1, 4, 2), 0, math.MaxInt, 0)}, 0, 0, false},
		{"far away on the other side", []paint.Pane{focused(at(-1, -1, 4, 3), 0, 1, math.MinInt)}, 0, 0, false},
		{"off the screen on its left", []paint.Pane{focused(at(-1, 0, 4, 2), 0, 0, 1)}, 0, 0, false},
		{"on the screen, of a pane that isn't wholly", []paint.Pane{focused(at(-1, -1, 4, 3), 0, 1, 1)}, 0, 0, true},
		{"off the screen on its right", []paint.Pane{focused(at(6, 0, 4, 2), 0, 2, 1)}, 0, 0, false},
		{"off the screen below", []paint.Pane{focused(at(0, 4, 4, 4), 0, 0, 2)}, 0, 0, false},
		{"in an empty rectangle", []paint.Pane{focused(at(1, 1, 0, 2), 0, 0, 0)}, 0, 0, false},
		{"not shown", []paint.Pane{hidden}, 0, 0, false},
		{"without the focus", []paint.Pane{without}, 0, 0, false},
		{"of a title", []paint.Pane{named}, 0, 0, false},
		{"below a title with the focus", []paint.Pane{first, focused(at(0, 0, 1, 1), 1, 0, 0), {Rect: at(7, 0, 1, 1), Z: 2, Title: true, Focus: true, Shown: true}}, 0, 0, true},
		{"covered", []paint.Pane{first, pane(at(3, 2, 1, 1), 1, "x")}, 0, 0, false},
		{"covered by a pane of one Z behind it", []paint.Pane{first, pane(at(3, 2, 1, 1), 0, "x")}, 0, 0, false},
		{"covered by a title", []paint.Pane{first, title(at(3, 2, 1, 1), "")}, 0, 0, false},
		{"covered by a title's second row", []paint.Pane{first, title(at(3, 1, 1, 2), "")}, 0, 0, false},
		{"beside a pane above it", []paint.Pane{first, pane(at(4, 2, 1, 1), 1, "x"), pane(at(2, 2, 1, 1), 1, "x"), pane(at(3, 1, 1, 1), 1, "x"), pane(at(3, 3, 1, 1), 1, "x")}, 3, 2, true},
		{"above a pane ahead of it", []paint.Pane{pane(at(0, 0, 8, 6), 0, "x"), first}, 3, 2, true},
		{"above a pane of a lesser Z", []paint.Pane{first, pane(at(0, 0, 8, 6), -1, "x")}, 3, 2, true},
		{"of two, the last one", []paint.Pane{first, focused(at(0, 0, 2, 2), 0, 1, 0)}, 1, 0, true},
		{"of two, the one of the greater Z", []paint.Pane{focused(at(0, 0, 2, 2), 1, 1, 0), first}, 1, 0, true},
		{"of two, the last one, which isn't shown", []paint.Pane{focused(at(0, 0, 2, 2), -1, 1, 0), hidden}, 0, 0, false},
		{"of two, the last one, which is off its rectangle", []paint.Pane{first, focused(at(0, 0, 2, 2), 1, 2, 0)}, 0, 0, false},
		{"of two, the last one, which is off the screen", []paint.Pane{first, focused(at(-2, 0, 2, 2), 1, 1, 0)}, 0, 0, false},
		{"of two, the last one, which is covered", []paint.Pane{first, focused(at(0, 0, 2, 2), 1, 1, 0), pane(at(1, 0, 1, 1), 2, "x")}, 0, 0, false},
	} {
		if s := paints(t, 8, 6, x.panes); s.X != x.x || s.Y != x.y || s.Shown != x.shown {
			t.Errorf("%s: the cursor is at %d, %d, %v", x.what, s.X, s.Y, s.Shown)
		}
	}
}
