package paint_test

import (
	"math"
	"math/rand"
	"slices"
	"testing"

	"casement/api"
	"casement/paint"
)

func TestP21_1_Blank(t *testing.T) {
	for _, w := range []int{math.MinInt, -1, 0, 1, 2, 3, 80, 199, 200, 201, 1 << 32, math.MaxInt} {
		for _, h := range []int{math.MinInt, -200, 0, 1, 2, 24, 199, 200, 201, 1<<32 + 1, math.MaxInt} {
			s := paint.Blank(w, h)
			want := modelOf(w, h, nil).screen()
			want.Shown = true
			if d := differ(s, want); d != "" {
				t.Fatalf("Blank(%d, %d): %s", w, h, d)
			}
		}
	}
}

func TestP21_1_RightSizes(t *testing.T) {
	if paint.Right(paint.Screen{}) {
		t.Error("a screen without cells is right")
	}
	for _, x := range []struct {
		what string
		do   func(s *paint.Screen)
		is   bool
	}{
		{"as it is", func(s *paint.Screen) {}, true},
		{"with a cursor that isn't shown", func(s *paint.Screen) { s.Shown = false }, true},
		{"with the cursor in the last cell", func(s *paint.Screen) { s.X, s.Y = 3, 2 }, true},
		{"with the cursor behind the last column", func(s *paint.Screen) { s.X = 4 }, false},
		{"with the cursor below the last row", func(s *paint.Screen) { s.Y = 3 }, false},
		{"with the cursor behind the last column, not shown", func(s *paint.Screen) { s.X, s.Shown = 4, false }, false},
		{"with the cursor at -1", func(s *paint.Screen) { s.X = -1 }, false},
		{"with the cursor at row -1", func(s *paint.Screen) { s.Y = -1 }, false},
		{"with the cursor far away", func(s *paint.Screen) { s.X = math.MaxInt }, false},
		{"with the cursor as far away on the other side", func(s *paint.Screen) { s.Y = math.MinInt }, false},
		{"with a width of one less", func(s *paint.Screen) { s.W-- }, false},
		{"with a width of one more", func(s *paint.Screen) { s.W++ }, false},
		{"with a height of one less", func(s *paint.Screen) { s.H-- }, false},
		{"with a height of one more", func(s *paint.Screen) { s.H++ }, false},
		{"without rows", func(s *paint.Screen) { s.Rows = nil }, false},
		{"without the last row", func(s *paint.Screen) { s.Rows = s.Rows[:2] }, false},
		{"with a row more", func(s *paint.Screen) { s.Rows = append(s.Rows, s.Rows[0]) }, false},
		{"with an empty row", func(s *paint.Screen) { s.Rows[2] = nil }, false},
		{"with a row of a cell less", func(s *paint.Screen) { s.Rows[1] = s.Rows[1][:3] }, false},
		{"with a row of a cell more", func(s *paint.Screen) { s.Rows[0] = append(s.Rows[0], cell('a', zero)) }, false},
		{"of no width", func(s *paint.Screen) { s.W, s.Rows = 0, make([][]api.Cell, 3) }, false},
		{"of no height", func(s *paint.Screen) { s.H, s.Rows = 0, nil }, false},
		{"of sizes below 0", func(s *paint.Screen) { s.W, s.H, s.Rows = -1, -1, nil }, false},
	} {
		s := paint.Blank(4, 3)
		x.do(&s)
		if got := paint.Right(s); got != x.is {
			t.Errorf("a blank screen %s: Right = %v", x.what, got)
		}
	}
}

func TestP21_1_RightIsOfAtMost200(t *testing.T) {
	for _, size := range [][2]int{{1, 1}, {200, 1}, {1, 200}, {200, 200}, {201, 1}, {1, 201}, {201, 201}, {300, 2}} {
		s := paint.Screen{W: size[0], H: size[1]}
		for range s.H {
			s.Rows = append(s.Rows, slices.Repeat([]api.Cell{cell('a', zero)}, s.W))
		}
		if got := paint.Right(s); got != (s.W <= 200 && s.H <= 200) {
			t.Errorf("a screen of %d times %d: Right = %v", s.W, s.H, got)
		}
	}
}

func TestP21_1_RightCells(t *testing.T) {
	red := api.Style{Fg: 2}
	for _, x := range []struct {
		what string
		row  []api.Cell
		is   bool
	}{
		{"letters", rows(red, "abc")[0], true},
		{"a wide rune", rows(red, "中~c")[0], true},
		{"a wide rune at the end", rows(red, "a中~")[0], true},
		{"half a wide rune at the end", rows(red, "ab中")[0], false},
		{"half a wide rune", rows(red, "中bc")[0], false},
		{"a second half at the beginning", rows(red, "~bc")[0], false},
		{"a second half behind a letter", rows(red, "a~c")[0], false},
		{"two second halves", rows(red, "中~~")[0], false},
		{"two first halves", rows(red, "中中~")[0], false},
		{"a style", []api.Cell{cell('a', red), cell('b', zero), cell(32, api.Style{Bg: api.Rgb, Attr: 31})}, true},
		{"halves of two styles", []api.Cell{cell(wide, red), cell(0, zero), cell('c', red)}, false},
		{"halves of two other styles", []api.Cell{cell('a', red), cell(wide, zero), cell(0, api.Style{Attr: 1})}, false},
		{"a rune of no width", rows(red, "a\u0301c")[0], false},
		{"a control", rows(red, "ab\x1b")[0], false},
		{"no rune", []api.Cell{cell(-1, red), cell('b', red), cell('c', red)}, false},
		{"no rune that is great", []api.Cell{cell('a', red), cell(math.MaxInt32, red), cell('c', red)}, false},
		{"a surrogate", []api.Cell{cell('a', red), cell('b', red), cell(0xd800, red)}, false},
	} {
		for y := range 3 {
			s := paint.Blank(3, 3)
			s.Rows[y] = x.row
			if got := paint.Right(s); got != x.is {
				t.Errorf("row %d has %s: Right = %v", y, x.what, got)
			}
		}
	}
	for _, style := range append(wrongStyles(), rightStyles()...) {
		for _, text := range []string{"a b", "中~b", "a中~"} {
			s := paint.Blank(3, 2)
			s.Rows[1] = rows(style, text)[0]
			if got := paint.Right(s); got != rightStyle(style) {
				t.Errorf("%q in %v: Right = %v", text, style, got)
			}
		}
	}
}

func TestP21_1_RightOfAnyCells(t *testing.T) {
	is := 0
	for seed := range int64(30000) {
		rnd := rand.New(rand.NewSource(seed))
		s := paint.Blank(1+rnd.Intn(4), 1+rnd.Intn(2))
		for _, row := range s.Rows {
			copy(row, slices.Concat(append(someRows(rnd, s.W, 1), nil)...))
		}
		s.X, s.Y = rnd.Intn(s.W+1), rnd.Intn(s.H)
		if got := paint.Right(s); got != right(s) {
			t.Fatalf("Right(%+v) = %v", s, got)
		} else if got {
			is++
		}
	}
	if is < 3000 {
		t.Errorf("only %d are right", is)
	}
}

func TestP21_1_Same(t *testing.T) {
	make3 := func() paint.Screen {
		return paint.Screen{W: 3, H: 2, X: 1, Y: 1, Shown: true, Rows: rows(api.Style{Fg: 2}, "中~c", "def")}
	}
	for what, do := range map[string]func(s *paint.Screen){
		"the width":       func(s *paint.Screen) { s.W = 4 },
		"the height":      func(s *paint.Screen) { s.H = 3 },
		"a great width":   func(s *paint.Screen) { s.W += 1 << 32 },
		"the column":      func(s *paint.Screen) { s.X = 2 },
		"the row":         func(s *paint.Screen) { s.Y = 0 },
		"the cursor":      func(s *paint.Screen) { s.Shown = false },
		"a rune":          func(s *paint.Screen) { s.Rows[1][2].Rune = 'g' },
		"the first rune":  func(s *paint.Screen) { s.Rows[0][0].Rune = 0xff01 },
		"a colour":        func(s *paint.Screen) { s.Rows[1][0].Style.Fg = 3 },
		"a background":    func(s *paint.Screen) { s.Rows[0][1].Style.Bg = 1 },
		"a mark":          func(s *paint.Screen) { s.Rows[0][2].Style.Attr = 1 },
		"a row more":      func(s *paint.Screen) { s.Rows = append(s.Rows, nil) },
		"a row less":      func(s *paint.Screen) { s.Rows = s.Rows[:1] },
		"no rows":         func(s *paint.Screen) { s.Rows = nil },
		"a cell more":     func(s *paint.Screen) { s.Rows[0] = append(s.Rows[0], api.Cell{}) },
		"a cell less":     func(s *paint.Screen) { s.Rows[1] = s.Rows[1][:2] },
		"an empty row":    func(s *paint.Screen) { s.Rows[1] = nil },
		"rows that moved": func(s *paint.Screen) { s.Rows[0], s.Rows[1] = s.Rows[1], s.Rows[0] },
	} {
		s, other := make3(), make3()
		if !paint.Same(s, other) {
			t.Fatal("the same ones aren't the same")
		}
		do(&other)
		if paint.Same(s, other) || paint.Same(other, s) || !paint.Same(other, other) {
			t.Errorf("Same of what differs in %s", what)
		}
	}
	if !paint.Same(paint.Screen{}, paint.Screen{Rows: [][]api.Cell{}}) || !paint.Same(paint.Screen{Rows: [][]api.Cell{nil}}, paint.Screen{Rows: [][]api.Cell{{}}}) {
		t.Error("Same of nil and empty lists")
	}
	if odd := (paint.Screen{W: -1, H: math.MaxInt, X: math.MinInt, Rows: rows(wrongStyles()[0], "\x07~~", "")}); !paint.Same(odd, copied(odd)) {
		t.Error("Same of screens that aren't right")
	}
}

func TestP21_2_BlankIsRight(t *testing.T) {
	for w := -2; w < 210; w += 3 {
		for h := -2; h < 210; h += 7 {
			if s := paint.Blank(w, h); !paint.Right(s) || !right(s) {
				t.Fatalf("Blank(%d, %d) isn't right", w, h)
			}
		}
	}
}

func TestP21_4_BlankIsNewMemory(t *testing.T) {
	s, other := paint.Blank(5, 4), paint.Blank(5, 4)
	for y, row := range s.Rows {
		spoil(row, cell('x', zero))
		for _, below := range s.Rows[y+1:] {
			if slices.Contains(below[:cap(below)], cell('x', zero)) {
				t.Fatalf("row %d is another one, too", y)
			}
		}
	}
	spoil(s.Rows, nil)
	if !paint.Same(other, paint.Blank(5, 4)) || text(other) != "     |     |     |     |" {
		t.Errorf("behind a Blank that was written over: %q", text(other))
	}
}

func TestP21_4_RightAndSameLeaveScreensAlone(t *testing.T) {
	for seed := range int64(200) {
		rnd := rand.New(rand.NewSource(seed))
		s := paint.Screen{W: 4, H: 2, Rows: someRows(rnd, 4, 2)}
		was := copied(s)
		paint.Right(s)
		paint.Same(s, was)
		paint.Same(was, s)
		if d := differ(s, was); d != "" {
			t.Fatalf("seed %d: %s", seed, d)
		}
	}
}
