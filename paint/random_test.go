package paint_test

import (
	"fmt"
	"math"
	"math/rand"
	"slices"
	"strings"
	"testing"

	"casement/api"
	"casement/glyph"
	"casement/paint"
)

func TestP21_1_AnyPanes(t *testing.T) {
	shown, halves := 0, 0
	for seed := range int64(12000) {
		rnd := rand.New(rand.NewSource(seed))
		s := paints(t, rnd.Intn(14), rnd.Intn(8), somePanes(rnd))
		if s.Shown {
			shown++
		}
		if strings.Contains(text(s), "~") {
			halves++
		}
	}
	if shown < 300 || halves < 1000 {
		t.Errorf("only %d cursors are shown, only %d screens have wide runes", shown, halves)
	}
}

func TestP21_1_StrangeNumbers(t *testing.T) {
	numbers := []int{math.MinInt, math.MinInt + 1, -5001, -5000, -201, -200, -1, 0, 1, 199, 200, 201, 4999, 5000, math.MaxInt - 1, math.MaxInt}
	for seed := range int64(300) {
		rnd := rand.New(rand.NewSource(seed))
		one := func() int { return pick(rnd, numbers...) }
		var panes []paint.Pane
		for range 1 + rnd.Intn(5) {
			p := somePane(rnd)
			if rnd.Intn(2) == 0 {
				p.Rect = at(one(), one(), one(), one())
			}
			p.X, p.Y, p.Z, p.Focus, p.Shown = one(), one(), one(), true, true
			panes = append(panes, p)
		}
		w, h := rnd.Intn(9), rnd.Intn(9)
		if rnd.Intn(8) == 0 {
			w, h = one(), one()
		}
		paints(t, w, h, panes)
	}
}

func TestP21_2_WhatIsPaintedIsRight(t *testing.T) {
	for seed := range int64(6000) {
		rnd := rand.New(rand.NewSource(seed))
		w, h, panes := rnd.Intn(14)-1, rnd.Intn(7)-1, somePanes(rnd)
		if s := paint.Paint(w, h, panes); !paint.Right(s) || !right(s) {
			t.Fatalf("Paint(%d, %d, %+v) = %+v", w, h, panes, s)
		}
	}
}

// touched tells whether a pane's rectangle has the cell at x, y or one beside it.
func touched(r api.Rect, x, y int) bool {
	return inside(r, x, y) || inside(r, x-1, y) || inside(r, x+1, y)
}

func TestP21_3_CellsOfNoPane(t *testing.T) {
	for seed := range int64(4000) {
		rnd := rand.New(rand.NewSource(seed))
		panes := somePanes(rnd)
		m := modelOf(12, 6, panes)
		s := paint.Paint(12, 6, panes)
		for y, row := range s.Rows {
			for x, c := range row {
				if m.last(x, y) < 0 && c != cell(32, zero) {
					t.Fatalf("seed %d: %d, %d is %v", seed, x, y, c)
				}
			}
		}
	}
}

// halved tells whether the cell at x was a half of a wide rune, or is one.
func halved(was, is []api.Cell, x int) bool {
	half := func(row []api.Cell) bool { return row[x].Rune == 0 || glyph.Width(row[x].Rune) == 2 }
	return half(was) || half(is)
}

func TestP21_3_APaneChangesNoCellOutside(t *testing.T) {
	changed := 0
	for seed := range int64(12000) {
		rnd := rand.New(rand.NewSource(seed))
		panes := somePanes(rnd)
		panes = panes[:min(len(panes), 23)]
		without := paint.Paint(12, 6, panes)
		p := somePane(rnd)
		with := paint.Paint(12, 6, slices.Insert(slices.Clone(panes), rnd.Intn(len(panes)+1), p))
		r := cleaned(p.Rect)
		for y := range with.Rows {
			was, is := without.Rows[y], with.Rows[y]
			for x := range is {
				if is[x] == was[x] || inside(r, x, y) {
					continue
				}
				changed++
				if !touched(r, x, y) || !halved(was, is, x) {
					t.Fatalf("seed %d: a pane at %v makes %v of %v at %d, %d", seed, r, is[x], was[x], x, y)
				}
			}
		}
	}
	if changed < 200 {
		t.Errorf("only %d cells beside a pane were changed", changed)
	}
}

func TestP21_4_ArgumentsStay(t *testing.T) {
	for seed := range int64(500) {
		rnd := rand.New(rand.NewSource(seed))
		list := somePanes(rnd)
		for i := range list {
			for y, row := range list[i].Rows {
				list[i].Rows[y] = append(row, cell(wide, zero), cell(0, zero))[:len(row)]
			}
		}
		spare := paint.Pane{Rect: at(9, 9, 9, 9), Z: -9, Name: "spare"}
		room := append(slices.Clone(list), spare, spare)
		was := fmt.Sprintf("%+v", copiedPanes(room))
		s := paint.Paint(9, 5, room[:len(list)])
		if got := fmt.Sprintf("%+v", room); got != was {
			t.Fatalf("seed %d: Paint makes %s of %s", seed, got, was)
		}
		for i := range list {
			for y, row := range list[i].Rows {
				if behind := row[len(row) : len(row)+2]; behind[0] != cell(wide, zero) || behind[1] != cell(0, zero) {
					t.Fatalf("seed %d: Paint writes %v behind row %d of pane %d", seed, behind, y, i)
				}
			}
		}
		kept := copied(s)
		for i := range list {
			spoilRows(list[i].Rows)
		}
		spoil(room, spare)
		if d := differ(s, kept); d != "" {
			t.Fatalf("seed %d: what was painted has become another screen: %s", seed, d)
		}
	}
}

func TestP21_4_AnswersAreNewMemory(t *testing.T) {
	for seed := range int64(500) {
		rnd := rand.New(rand.NewSource(seed))
		panes := somePanes(rnd)
		was := fmt.Sprintf("%+v", panes)
		first, second := paint.Paint(9, 5, panes), paint.Paint(9, 5, panes)
		kept := copied(second)
		for y, row := range first.Rows {
			below := copiedRows(first.Rows[y+1:])
			spoil(row, cell(7, zero))
			if !slices.EqualFunc(below, first.Rows[y+1:], slices.Equal) {
				t.Fatalf("seed %d: row %d is another one, too", seed, y)
			}
		}
		spoil(first.Rows, nil)
		if d := differ(second, kept); d != "" {
			t.Fatalf("seed %d: behind a screen that was written over: %s", seed, d)
		}
		if got := fmt.Sprintf("%+v", panes); got != was {
			t.Fatalf("seed %d: panes that were painted have become %s, not %s", seed, got, was)
		}
		if d := differ(paint.Paint(9, 5, panes), kept); d != "" {
			t.Fatalf("seed %d: painted again: %s", seed, d)
		}
	}
}
