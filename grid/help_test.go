package grid_test

import (
	"bytes"
	"math/rand"
	"slices"
	"strings"
	"testing"

	"casement/api"
	"casement/grid"
)

// text is cells as text, with the second halves of wide runes as ~.
func text(row []api.Cell) string {
	var b strings.Builder
	for _, c := range row {
		if c.Rune == 0 {
			c.Rune = '~'
		}
		b.WriteRune(c.Rune)
	}
	return b.String()
}

// shown is the rows of a grid as text.
func shown(g *grid.Grid) string {
	var rows []string
	_, h := g.Size()
	for y := range h {
		rows = append(rows, text(g.Row(y)))
	}
	return strings.Join(rows, "|")
}

// gone is the past of a grid as text.
func gone(g *grid.Grid) string {
	var rows []string
	for i := range g.Past() {
		rows = append(rows, text(g.Old(i)))
	}
	return strings.Join(rows, "|")
}

// differs tells in what a grid isn't as the model; "": in nothing. Replies aren't looked at: that would take them.
func differs(g *grid.Grid, m *model) string {
	w, h := g.Size()
	x, y, on := g.Cursor()
	switch {
	case w != m.w || h != m.h:
		return "sizes"
	case x != m.x || y != m.y || on != m.shown:
		return "cursor"
	case g.Title() != m.title:
		return "title"
	case g.Bells() != m.bells:
		return "bells"
	case g.Alt() != (m.alt == 1):
		return "screen"
	case g.Style() != m.style:
		return "style"
	case g.Past() != len(m.past):
		return "past"
	}
	for y, row := range m.rows() {
		if !slices.Equal(g.Row(y), row) {
			return "rows"
		}
	}
	for i, row := range m.past {
		if !slices.Equal(g.Old(i), row) {
			return "past rows"
		}
	}
	return ""
}

// follows holds a grid to the model.
func follows(t *testing.T, g *grid.Grid, m *model, in any) {
	t.Helper()
	if what := differs(g, m); what != "" {
		x, y, _ := g.Cursor()
		t.Fatalf("behind %q the %s differ: %q at %d, %d, past %q, style %v; not %v at %d, %d, style %v", in, what, shown(g), x, y, gone(g), g.Style(), texts(m.rows()), m.x, m.y, m.style)
	}
}

func texts(rows [][]api.Cell) []string {
	var list []string
	for _, row := range rows {
		list = append(list, text(row))
	}
	return list
}

// takes holds the replies to the model's.
func takes(t *testing.T, g *grid.Grid, m *model, in any) {
	t.Helper()
	if got := g.Take(); string(got) != m.replies {
		t.Fatalf("behind %q: the replies %q, not %q", in, got, m.replies)
	}
	m.replies = ""
}

// written is a grid to which a text was written, and the model holds too.
func written(t *testing.T, w, h, past int, in string) *grid.Grid {
	t.Helper()
	g, m := grid.New(w, h, past), newModel(w, h, past)
	if n, want := g.Write([]byte(in)), m.write([]byte(in)); n != want {
		t.Errorf("%q: %d acts, not %d", in, n, want)
	}
	follows(t, g, m, in)
	return g
}

// finals are of sequences that do something, and some that don't.
const finals = "ABCDEFGdHfJKXP@LMSTbgmrsunchlJKXP@LMSTbmmrHHzqtZ"

// runes are narrow, wide and without a width.
var runes = []string{"a", "b", "x", " ", "~", "\u00e9", "\u4e2d", "\u4e2d", "\uff21", "\U0001f600", "\u0301", "\u200b", "\u0085", "\ufffd", "\xff", "\xe4\xb8"}

// strange are acts whole or in part, and such as aren't known.
var strange = []string{"\x00", "\x0e", "\x1f", "\x7f", "\x18", "\x1b", "\x1b[", "\x1b[1;", "\x1b(B", "\x1b#8", "\x1b=", "\x1bZ", "\x1b[!p", "\x1b[2 q", "\x1b[>c", "\x1b[>4h", "\x1b[?2J", "\x1b[?1m", "\x1b[1:2m", "\x1bPdata\x1b\\", "\x1b_x\x07", "\x1b]1;no\x07", "\x1b]0;yes\x07", "\x1b]2;ti\xfftle\x1b\\", "\x1b]0\x07", "\x1b]2;"}

func pick(rnd *rand.Rand, of []string) string { return of[rnd.Intn(len(of))] }

// number is one that a small grid cares for, or one that it doesn't.
func number(rnd *rand.Rand) string {
	return pick(rnd, []string{"", "0", "1", "1", "2", "2", "3", "4", "5", "6", "7", "9", "12", "200", "201", "9999", "99999"})
}

// someBytes says one thing, mostly.
func someBytes(rnd *rand.Rand) string {
	switch rnd.Intn(16) {
	case 0:
		return pick(rnd, []string{"\n", "\r", "\r\n", "\b", "\t", "\x07", "\x0b", "\x0c"})
	case 1:
		return "\x1b" + pick(rnd, []string{"7", "8", "D", "E", "M", "M", "H", "7", "8", "c"})
	case 2, 3, 4, 5:
		return "\x1b[" + number(rnd) + string(finals[rnd.Intn(len(finals))])
	case 6:
		return "\x1b[" + number(rnd) + ";" + number(rnd) + string(finals[rnd.Intn(len(finals))])
	case 7:
		return "\x1b[" + pick(rnd, []string{"1;2r", "2;3r", "2;4r", "3;9r", "r", "4h", "4l", "0;31m", "44;1m", "41m", "48;5;200m", "m", "3g", "g", "6n", "5n", "c", "H"})
	case 8:
		return "\x1b[?" + pick(rnd, []string{"6", "6", "7", "25", "1049", "1049", "12", "25;7", "6;1049", ""}) + pick(rnd, []string{"h", "l"})
	case 9:
		return pick(rnd, strange)
	case 10:
		return string([]byte{byte(rnd.Intn(256)), byte(rnd.Intn(256))})
	case 11:
		return strings.Repeat(pick(rnd, runes), 1+rnd.Intn(12))
	}
	return pick(rnd, runes) + pick(rnd, runes)
}

// stream says many things.
func stream(rnd *rand.Rand, parts int) []byte {
	var b bytes.Buffer
	for range rnd.Intn(parts + 1) {
		b.WriteString(someBytes(rnd))
	}
	return b.Bytes()
}

// small are the sizes of a grid on which much happens at the edges.
func small(rnd *rand.Rand) (w, h int) {
	w, h = 1+rnd.Intn(7), 1+rnd.Intn(6)
	if rnd.Intn(4) == 0 {
		w += 12
	}
	return w, h
}
