package sgr_test

import (
	"math"
	"math/rand"
	"slices"
	"testing"

	"casement/api"
	"casement/sgr"
)

// full has something in all fields, so that what goes and what stays is seen.
var full = api.Style{Fg: 200, Bg: rgb + 5, Attr: 31}

// row is a style, numbers, and the style that comes of it.
type row struct {
	from api.Style
	ns   []int
	to   api.Style
}

func (x row) holds(t *testing.T) {
	t.Helper()
	if got := sgr.Apply(x.from, x.ns); got != x.to {
		t.Errorf("Apply(%v, %v) = %v, not %v", x.from, x.ns, got, x.to)
	}
}

func TestP5_1_ApplyResets(t *testing.T) {
	none := api.Style{}
	for _, x := range []row{
		{full, nil, none},
		{full, []int{}, none},
		{full, []int{0}, none},
		{full, []int{-1}, none},
		{full, []int{-2}, full},
		{full, []int{math.MinInt}, full},
		{none, []int{1, 0, 31}, api.Style{Fg: 2}},
		{none, []int{1, -1, 31}, api.Style{Fg: 2}},
		{none, []int{31, 44, 1, 0}, none},
		{none, []int{31, 44, 1, -7}, api.Style{Fg: 2, Bg: 5, Attr: 1}},
	} {
		x.holds(t)
	}
}

func TestP5_1_ApplyMarks(t *testing.T) {
	on := map[int]int{1: 1, 2: 2, 3: 4, 4: 8, 7: 16}
	off := map[int]int{22: 3, 23: 4, 24: 8, 27: 16}
	for attr := range 32 {
		from := api.Style{Fg: 9, Bg: 256, Attr: attr}
		for n, mark := range on {
			row{from, []int{n}, api.Style{Fg: 9, Bg: 256, Attr: attr | mark}}.holds(t)
		}
		for n, mark := range off {
			row{from, []int{n}, api.Style{Fg: 9, Bg: 256, Attr: attr &^ mark}}.holds(t)
		}
	}
	row{api.Style{}, []int{1, 2, 3, 4, 7}, api.Style{Attr: 31}}.holds(t)
	row{api.Style{}, []int{1, 1, 4, 4}, api.Style{Attr: 9}}.holds(t)
	row{api.Style{}, []int{22, 1}, api.Style{Attr: 1}}.holds(t)
	row{api.Style{}, []int{1, 22}, api.Style{}}.holds(t)
}

func TestP5_1_ApplyPlainColours(t *testing.T) {
	for i := range 8 {
		row{full, []int{30 + i}, api.Style{Fg: 1 + i, Bg: full.Bg, Attr: 31}}.holds(t)
		row{full, []int{90 + i}, api.Style{Fg: 9 + i, Bg: full.Bg, Attr: 31}}.holds(t)
		row{full, []int{40 + i}, api.Style{Fg: 200, Bg: 1 + i, Attr: 31}}.holds(t)
		row{full, []int{100 + i}, api.Style{Fg: 200, Bg: 9 + i, Attr: 31}}.holds(t)
	}
	row{full, []int{39}, api.Style{Bg: full.Bg, Attr: 31}}.holds(t)
	row{full, []int{49}, api.Style{Fg: 200, Attr: 31}}.holds(t)
	row{full, []int{31, 32, 107, 49, 46}, api.Style{Fg: 3, Bg: 7, Attr: 31}}.holds(t)
}

func TestP5_1_ApplyEachNumber(t *testing.T) {
	ns := []int{math.MinInt, math.MinInt + 1, math.MinInt + 38, 1 << 32, 1<<32 + 1, 1<<32 + 31, -1 << 32, math.MaxInt - 1, math.MaxInt}
	for n := -400; n <= 12000; n++ {
		ns = append(ns, n)
	}
	for _, n := range ns {
		for _, from := range []api.Style{{}, full, {Fg: 3, Bg: 16, Attr: 21}} {
			row{from, []int{n}, apply(from, []int{n})}.holds(t)
			if n != 38 && n != 48 {
				row{from, []int{n, 1, 91}, apply(from, []int{n, 1, 91})}.holds(t)
			}
			if single[n] == nil {
				row{from, []int{n}, from}.holds(t)
			}
		}
	}
}

// coloured is full with another colour, as a 38 or a 48 sets it.
func coloured(field, c int) api.Style {
	s := full
	if field == 38 {
		s.Fg = c
	} else {
		s.Bg = c
	}
	return s
}

func TestP5_1_ApplyColoursByNumber(t *testing.T) {
	for _, field := range []int{38, 48} {
		for n := range 256 {
			row{full, []int{field, 5, n}, coloured(field, n+1)}.holds(t)
			row{full, []int{field, 5, n, 0}, api.Style{}}.holds(t)
		}
		for _, n := range []int{math.MinInt, -256, -2, -1, 256, 257, 300, 511, 9999, 1 << 32, math.MaxInt} {
			row{full, []int{field, 5, n}, full}.holds(t)
			row{full, []int{field, 5, n, 24}, api.Style{Fg: 200, Bg: full.Bg, Attr: 23}}.holds(t)
			row{full, []int{field, 5, n, 0}, api.Style{}}.holds(t)
		}
		row{full, []int{field, 5}, full}.holds(t)
		row{full, []int{field, 5, 1, 22}, apply(coloured(field, 2), []int{22})}.holds(t)
		row{full, []int{field, 5, 38, 39, 49}, api.Style{Attr: 31}}.holds(t)
		row{full, []int{1, field, 5}, full}.holds(t)
	}
}

func TestP5_1_ApplyColoursOfThree(t *testing.T) {
	for _, field := range []int{38, 48} {
		for n := range 256 {
			row{full, []int{field, 2, n, 0, 0}, coloured(field, rgb+65536*n)}.holds(t)
			row{full, []int{field, 2, 0, n, 0}, coloured(field, rgb+256*n)}.holds(t)
			row{full, []int{field, 2, 0, 0, n}, coloured(field, rgb+n)}.holds(t)
			row{full, []int{field, 2, n, 255 - n, 7}, coloured(field, rgb+65536*n+256*(255-n)+7)}.holds(t)
		}
		for _, n := range []int{math.MinInt, -256, -2, -1, 256, 257, 300, 9999, 1 << 32, math.MaxInt} {
			for at := range 3 {
				three := []int{1, 2, 3}
				three[at] = n
				ns := append([]int{field, 2}, three...)
				row{full, ns, full}.holds(t)
				row{full, append(ns, 24), api.Style{Fg: 200, Bg: full.Bg, Attr: 23}}.holds(t)
				row{full, append(ns, 0), api.Style{}}.holds(t)
			}
		}
		row{full, []int{field, 2, 255, 255, 255}, coloured(field, 2*rgb-1)}.holds(t)
		row{full, []int{field, 2, 38, 5, 48, 27}, apply(coloured(field, rgb+38*65536+5*256+48), []int{27})}.holds(t)
		row{full, []int{field, 2}, full}.holds(t)
		row{full, []int{field, 2, 22}, full}.holds(t)
		row{full, []int{field, 2, 22, 0}, full}.holds(t)
		row{full, []int{field, 2, 0, 0}, full}.holds(t)
	}
}

func TestP5_1_ApplyColoursOfNoWay(t *testing.T) {
	ways := []int{math.MinInt, -5, -2, -1, 0, 1, 3, 4, 6, 7, 8, 9, 22, 38, 48, 255, 1<<32 + 5, 1<<32 + 2, math.MaxInt}
	for n := -300; n < 300; n++ {
		if n != 2 && n != 5 {
			ways = append(ways, n)
		}
	}
	for _, field := range []int{38, 48} {
		row{full, []int{field}, full}.holds(t)
		row{full, []int{24, field}, api.Style{Fg: 200, Bg: full.Bg, Attr: 23}}.holds(t)
		for _, way := range ways {
			row{full, []int{field, way}, full}.holds(t)
			row{full, []int{field, way, 0}, full}.holds(t)
			row{full, []int{field, way, 1, 2, 3, 0, 31, 22}, full}.holds(t)
			row{full, []int{27, field, way, 0, 22}, api.Style{Fg: 200, Bg: full.Bg, Attr: 15}}.holds(t)
		}
	}
}

func TestP5_1_ApplyCountsSixteen(t *testing.T) {
	idle := func(n int) []int { return slices.Repeat([]int{50}, n) }
	for _, field := range []int{38, 48} {
		for _, x := range []row{
			{full, append(idle(15), 0), api.Style{}},
			{full, append(idle(16), 0), full},
			{full, append(idle(5000), 0), full},
			{full, append(idle(13), field, 5, 9, 0), coloured(field, 10)},
			{full, append(idle(14), field, 5, 9), full},
			{full, append(idle(15), field, 5, 9), full},
			{full, append(idle(11), field, 2, 1, 2, 3, 0), coloured(field, rgb+66051)},
			{full, append(idle(12), field, 2, 1, 2, 3), full},
			{full, append(idle(13), field, 2, 1, 2, 3), full},
			{full, append(idle(14), field, 5, 300, 0), full},
		} {
			x.holds(t)
		}
	}
}

func TestP5_1_ApplyTakesWrongStylesForTheZeroStyle(t *testing.T) {
	for _, wrong := range wrongStyles() {
		row{wrong, []int{50}, api.Style{}}.holds(t)
		row{wrong, []int{22}, api.Style{}}.holds(t)
		row{wrong, nil, api.Style{}}.holds(t)
		row{wrong, []int{4}, api.Style{Attr: 8}}.holds(t)
		row{wrong, []int{95}, api.Style{Fg: 14}}.holds(t)
		row{wrong, []int{48, 5, 300, 38, 2, 0, 0, 1, 7}, api.Style{Fg: rgb + 1, Attr: 16}}.holds(t)
	}
}

func TestP5_1_ApplyFewNumbers(t *testing.T) {
	for _, a := range numbers {
		for _, b := range numbers {
			row{full, []int{a, b}, apply(full, []int{a, b})}.holds(t)
			for _, c := range numbers {
				row{full, []int{a, b, c, 3}, apply(full, []int{a, b, c, 3})}.holds(t)
			}
		}
	}
}

func TestP5_1_ApplyManyNumbers(t *testing.T) {
	rnd := rand.New(rand.NewSource(1))
	for range 200000 {
		s, ns := someStyle(rnd), someNumbers(rnd, 24)
		row{s, ns, apply(s, first(ns))}.holds(t)
	}
}

func TestP5_2_ApplyAnswersRightStyles(t *testing.T) {
	rnd := rand.New(rand.NewSource(2))
	styles := append(wrongStyles(), rightStyles()...)
	for range 200000 {
		s, ns := styles[rnd.Intn(len(styles))], someNumbers(rnd, 20)
		if got := sgr.Apply(s, ns); !sgr.Right(got) || !isRight(got) {
			t.Fatalf("Apply(%v, %v) = %v", s, ns, got)
		}
	}
}

// inPieces applies numbers group by group, a piece where cuts has a bit.
func inPieces(s api.Style, ns []int, cuts int) api.Style {
	var piece []int
	parts := groups(ns)
	for i, g := range parts {
		piece = append(piece, g...)
		if i == len(parts)-1 || cuts>>i&1 == 1 {
			s = sgr.Apply(s, piece)
			piece = nil
		}
	}
	return s
}

func TestP5_3_TwoPieces(t *testing.T) {
	for _, x := range [][]int{
		{1, 31}, {31, 0}, {0, 31}, {-1, -1}, {1, 22, 4}, {5, 6, 50, 1},
		{38, 5, 9, 1}, {1, 38, 5, 9}, {38, 5, 300, 1}, {48, 2, 1, 2, 3, 38, 5, 2}, {38, 2, 1, 2, 300, 4},
		{1, 38, 7, 0, 22}, {24, 48}, {24, 48, 5}, {24, 38, 2, 0, 0}, {38, 5, 38, 48, 5, 48, 38, 2, 5, 38, 48},
		{1, 2, 3, 4, 7, 31, 42, 22, 23, 24, 27, 39, 49, 90, 107, 1},
	} {
		whole := sgr.Apply(full, x)
		for i := range len(groups(x)) - 1 {
			if got := inPieces(full, x, 1<<i); got != whole {
				t.Errorf("%v, cut behind part %d, makes %v, not %v", x, i, got, whole)
			}
		}
	}
}

func TestP5_3_EveryCut(t *testing.T) {
	rnd := rand.New(rand.NewSource(3))
	for range 20000 {
		s, ns := someStyle(rnd), someNumbers(rnd, 16)
		if len(ns) == 0 {
			continue
		}
		whole := sgr.Apply(s, ns)
		for i := range len(groups(ns)) {
			if got := inPieces(s, ns, 1<<i); got != whole {
				t.Fatalf("%v by %v, cut behind part %d, makes %v, not %v", s, ns, i, got, whole)
			}
		}
		for range 4 {
			if cuts := rnd.Intn(1 << 16); inPieces(s, ns, cuts) != whole {
				t.Fatalf("%v by %v, cut as in %b, makes %v, not %v", s, ns, cuts, inPieces(s, ns, cuts), whole)
			}
		}
	}
}

func TestP5_4_ApplyLeavesItsNumbers(t *testing.T) {
	rnd := rand.New(rand.NewSource(4))
	for range 20000 {
		backing := append(someNumbers(rnd, 24), 11, 12, 13)
		before := slices.Clone(backing)
		ns := backing[:len(backing)-3]
		s := someStyle(rnd)
		one := sgr.Apply(s, ns)
		if !slices.Equal(backing, before) {
			t.Fatalf("Apply(%v, %v) leaves %v", s, before[:len(ns)], backing)
		}
		if two := sgr.Apply(s, ns); one != two {
			t.Fatalf("Apply(%v, %v) = %v, then %v", s, ns, one, two)
		}
	}
}
