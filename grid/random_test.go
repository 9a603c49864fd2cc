package grid_test

import (
	"fmt"
	"math/rand"
	"slices"
	"testing"

	"casement/api"
	"casement/glyph"
	"casement/grid"
	"casement/sgr"
)

func TestP6_1_AnyBytes(t *testing.T) {
	rnd := rand.New(rand.NewSource(1))
	for range 6000 {
		w, h := small(rnd)
		past := rnd.Intn(6)
		g, m := grid.New(w, h, past), newModel(w, h, past)
		var all []byte
		for range rnd.Intn(60) {
			in := []byte(someBytes(rnd))
			all = append(all, in...)
			if n, want := g.Write(in), m.write(in); n != want {
				t.Fatalf("behind %q: %d acts, not %d", all, n, want)
			}
			follows(t, g, m, all)
			if rnd.Intn(20) == 0 {
				takes(t, g, m, all)
			}
		}
		takes(t, g, m, all)
	}
}

func TestP6_1_AnyBytesAndSizes(t *testing.T) {
	rnd := rand.New(rand.NewSource(2))
	for range 3000 {
		w, h := small(rnd)
		g, m := grid.New(w, h, 9), newModel(w, h, 9)
		var all []any
		for range rnd.Intn(20) {
			in := stream(rnd, 8)
			g.Write(in)
			m.write(in)
			w, h = small(rnd)
			if rnd.Intn(3) == 0 {
				w, _ = g.Size()
			}
			if rnd.Intn(3) == 0 {
				_, h = g.Size()
			}
			all = append(all, string(in), w, h)
			g.Resize(w, h)
			m.resize(w, h)
			follows(t, g, m, all)
		}
		takes(t, g, m, all)
	}
}

func TestP6_1_LargeGrids(t *testing.T) {
	rnd := rand.New(rand.NewSource(3))
	for _, size := range [][2]int{{200, 200}, {200, 3}, {2, 200}, {80, 24}} {
		g, m := grid.New(size[0], size[1], 1000), newModel(size[0], size[1], 1000)
		for range 5 {
			in := slices.Concat(stream(rnd, 20), []byte("\x1b[?1049l\x1b[99b\x1b[99T\x1b[99S"))
			g.Write(in)
			m.write(in)
			follows(t, g, m, in)
			takes(t, g, m, in)
		}
	}
}

func TestP6_1_LongTexts(t *testing.T) {
	rnd := rand.New(rand.NewSource(4))
	for range 20 {
		in := stream(rnd, 5000)
		g, m := grid.New(9, 4, 50), newModel(9, 4, 50)
		if n, want := g.Write(in), m.write(in); n != want {
			t.Fatalf("%d acts, not %d", n, want)
		}
		follows(t, g, m, "a long text")
		takes(t, g, m, "a long text")
	}
}

// told is all that a grid answers; it takes the replies.
func told(g *grid.Grid) string {
	w, h := g.Size()
	x, y, on := g.Cursor()
	all := fmt.Sprintf("%dx%d at %d, %d, %v, %q, %d bells, %v, %v, %q", w, h, x, y, on, g.Title(), g.Bells(), g.Alt(), g.Style(), g.Take())
	for y := range h {
		all += fmt.Sprintf("\n%q %v", text(g.Row(y)), g.Row(y))
	}
	for i := range g.Past() {
		all += fmt.Sprintf("\npast %q %v", text(g.Old(i)), g.Old(i))
	}
	return all
}

func TestP6_2_AnyPieces(t *testing.T) {
	rnd := rand.New(rand.NewSource(5))
	for range 2000 {
		w, h := small(rnd)
		in := stream(rnd, 40)
		whole, parts, single := grid.New(w, h, 9), grid.New(w, h, 9), grid.New(w, h, 9)
		n, inParts, inSingle := whole.Write(in), 0, 0
		for rest := in; len(rest) > 0; {
			k := min(rnd.Intn(7), len(rest))
			inParts += parts.Write(rest[:k])
			rest = rest[k:]
		}
		for i := range in {
			inSingle += single.Write(in[i : i+1])
		}
		if n != inParts || n != inSingle {
			t.Fatalf("%q says %d acts, in pieces %d, byte by byte %d", in, n, inParts, inSingle)
		}
		// What is left unsaid goes on likewise, too.
		for _, g := range []*grid.Grid{whole, parts, single} {
			g.Write([]byte("5m\x07z\u4e2d"))
		}
		a, b, c := told(whole), told(parts), told(single)
		if a != b || a != c {
			t.Fatalf("%q:\n%s\nin pieces:\n%s\nbyte by byte:\n%s", in, a, b, c)
		}
	}
}

func TestP6_2_EveryCut(t *testing.T) {
	for _, in := range []string{
		"a\u4e2d\x1b[2;1Hb\x1b[0;31;44mc\x1b[Kd\x1b]2;title\x1b\\e\U0001f600",
		"\x1b7abc\xe4\xb8\x1b8d\x1b[?1049hx\x1b[?6;7l\x1b[6n\x1b[?1049ly",
		"abcdef\x1b(B\x1b[2 q\x1b[1:2mg\x1b[9b\x1bPx\x1b\\\r\nh",
	} {
		for cut := range len(in) + 1 {
			whole, parts := grid.New(4, 3, 9), grid.New(4, 3, 9)
			n := whole.Write([]byte(in))
			if k := parts.Write([]byte(in[:cut])) + parts.Write([]byte(in[cut:])); k != n || told(whole) != told(parts) {
				t.Errorf("%q, cut at %d: %d acts, %q; at once %d, %q", in, cut, k, shown(parts), n, shown(whole))
			}
		}
	}
}

func TestP6_2_APieceThatIsAsLongAsMayBe(t *testing.T) {
	for _, n := range []int{4094, 4095, 4096, 4097, 8191, 8192, 8193, 20000} {
		in := slices.Concat(slices.Repeat([]byte("x"), n-2), []byte("\u4e2d\x1b[31my\x1b[6n\x07"))
		whole, single := grid.New(7, 3, 5), grid.New(7, 3, 5)
		total := 0
		for i := range in {
			total += single.Write(in[i : i+1])
		}
		if k := whole.Write(in); k != total || k != n+3 || told(whole) != told(single) {
			t.Errorf("%d bytes: %d acts, byte by byte %d", len(in), k, total)
		}
	}
}

// isWhole tells what is wrong with a grid, if anything is.
func isWhole(g *grid.Grid) string {
	w, h := g.Size()
	x, y, _ := g.Cursor()
	if x < 0 || x >= w || y < 0 || y >= h {
		return "the cursor lies outside"
	}
	if !sgr.Right(g.Style()) {
		return "the style isn't right"
	}
	for y := range h {
		if row := g.Row(y); len(row) != w || !rowIsWhole(row) {
			return "a row isn't mended: " + text(row)
		}
	}
	for i := range g.Past() {
		if row := g.Old(i); !rowIsWhole(row) {
			return "a past row isn't mended: " + text(row)
		}
	}
	return ""
}

func rowIsWhole(row []api.Cell) bool {
	for x, c := range row {
		wide := glyph.Width(c.Rune) == 2
		behind := x > 0 && glyph.Width(row[x-1].Rune) == 2
		if !sgr.Right(c.Style) || wide && (x+1 == len(row) || row[x+1].Rune != 0) || behind != (c.Rune == 0) || c.Rune != 0 && glyph.Width(c.Rune) == 0 {
			return false
		}
	}
	return true
}

func TestP6_3_AlwaysWhole(t *testing.T) {
	rnd := rand.New(rand.NewSource(6))
	for range 4000 {
		w, h := small(rnd)
		g := grid.New(w, h, 5)
		var all []any
		for range rnd.Intn(50) {
			in := someBytes(rnd)
			all = append(all, in)
			g.Write([]byte(in))
			if rnd.Intn(15) == 0 {
				w, h = small(rnd)
				all = append(all, w, h)
				g.Resize(w, h)
			}
			if what := isWhole(g); what != "" {
				t.Fatalf("behind %q: %s", all, what)
			}
		}
	}
}

func TestP6_3_HalvesOfWideRunes(t *testing.T) {
	for _, in := range []string{"x", "\u4e2d", "\x1b[4hx", "\x1b[4h\u4e2d", "\x1b[J", "\x1b[1J", "\x1b[K", "\x1b[1K", "\x1b[X", "\x1b[2X", "\x1b[3X", "\x1b[P", "\x1b[2P", "\x1b[3P", "\x1b[9P", "\x1b[@", "\x1b[2@", "\x1b[3@", "\x1b[9@"} {
		for w := 2; w <= 8; w++ {
			for x := 1; x <= w; x++ {
				for _, lead := range []string{"", "a"} {
					g := grid.New(w, 2, 0)
					g.Write([]byte("\x1b[44m" + lead + "\u4e2d\u4e2d\u4e2d\x1b[H\x1b[41m\x1b[" + string(rune('0'+x)) + "G" + in))
					if what := isWhole(g); what != "" {
						t.Errorf("%d columns, %q at %d behind %q: %s", w, in, x, lead, what)
					}
				}
			}
		}
	}
	for w := 1; w <= 9; w++ {
		g := grid.New(9, 2, 0)
		g.Write([]byte("a\u4e2d\u4e2d\u4e2d\u4e2d"))
		g.Resize(w, 1+w%2)
		if what := isWhole(g); what != "" {
			t.Errorf("%d columns: %s", w, what)
		}
	}
}

// spoil writes over a list and its spare room.
func spoil[T any](list []T, v T) {
	list = list[:cap(list)]
	for i := range list {
		list[i] = v
	}
}

func TestP6_4_AnswersAreNewMemory(t *testing.T) {
	rnd := rand.New(rand.NewSource(7))
	for range 500 {
		w, h := small(rnd)
		g, m := grid.New(w, h, 5), newModel(w, h, 5)
		var all []byte
		for range rnd.Intn(20) {
			in := stream(rnd, 4)
			all = append(all, in...)
			g.Write(in)
			m.write(in)
			follows(t, g, m, all)
			one, two := g.Take(), g.Take()
			if string(one) != m.replies || len(two) != 0 {
				t.Fatalf("behind %q: the replies %q, then %q", all, one, two)
			}
			m.replies = ""
			spoil(one, 'Z')
			wrong := api.Cell{Rune: 'Z', Style: api.Style{Fg: -7}}
			for y := range m.h {
				spoil(g.Row(y), wrong)
			}
			for i := range g.Past() {
				spoil(g.Old(i), wrong)
			}
			follows(t, g, m, all)
		}
	}
}

func TestP6_4_AnAnswerStays(t *testing.T) {
	g := written(t, 4, 2, 3, "old\r\nabc\r\nxyz\x1b[5n")
	row, old, replies := g.Row(0), g.Old(0), g.Take()
	g.Write([]byte("\x1b[H----\x1b[6n\n\n\n\n\x1b[2J\x1b[3J\x1bc"))
	g.Resize(2, 1)
	if text(row) != "abc " || text(old) != "old " || string(replies) != "\x1b[0n" {
		t.Errorf("answers have become %q, %q, %q", text(row), text(old), replies)
	}
}

func TestP6_4_WhatIsHandedInIsNotKept(t *testing.T) {
	rnd := rand.New(rand.NewSource(8))
	for range 500 {
		w, h := small(rnd)
		g, m := grid.New(w, h, 5), newModel(w, h, 5)
		var all []byte
		for range rnd.Intn(30) {
			in := []byte(someBytes(rnd))
			all = append(all, in...)
			const behind = "0123456789"
			piece := append(slices.Clone(in), behind...)
			g.Write(piece[:len(in)])
			m.write(in)
			if string(piece) != string(in)+behind {
				t.Fatalf("Write(%q) leaves %q", in, piece)
			}
			spoil(piece, 'Z')
			follows(t, g, m, all)
		}
		takes(t, g, m, all)
	}
}

func TestP6_4_GridsShareNothing(t *testing.T) {
	rnd := rand.New(rand.NewSource(9))
	for range 500 {
		w, h := small(rnd)
		one, other := grid.New(w, h, 5), grid.New(w, h, 5)
		m, n := newModel(w, h, 5), newModel(w, h, 5)
		for range rnd.Intn(20) {
			in := stream(rnd, 3)
			if rnd.Intn(2) == 0 {
				one.Write(in)
				m.write(in)
			} else {
				other.Write(in)
				n.write(in)
			}
			follows(t, one, m, in)
			follows(t, other, n, in)
		}
		takes(t, one, m, "it")
		takes(t, other, n, "it")
	}
}
