package grid_test

import (
	"fmt"
	"slices"
	"strings"

	"casement/api"
	"casement/esc"
	"casement/glyph"
	"casement/sgr"
)

type pos struct {
	x, y  int
	style api.Style
}

// model is a terminal told word by word: each act makes its screen anew, cell by cell, and mends all of it.
type model struct {
	p           esc.Parser
	w, h, most  int
	screens     [2][][]api.Cell
	alt         int
	x, y        int
	held        bool
	style       api.Style
	top, bottom int
	stops       map[int]bool
	wrap        bool
	insert      bool
	origin      bool
	shown       bool
	saved       [2]pos
	title       string
	bells       int
	replies     string
	last        []rune
	past        [][]api.Cell
}

func within(n, least, most int) int { return min(max(n, least), most) }

func newModel(w, h, past int) *model {
	m := &model{w: within(w, 1, 200), h: within(h, 1, 200), most: within(past, 0, 1000)}
	m.begin()
	return m
}

// begin is all as at first, but for the past, the bell's number and the replies.
func (m *model) begin() {
	*m = model{p: m.p, w: m.w, h: m.h, most: m.most, past: m.past, bells: m.bells, replies: m.replies, bottom: m.h - 1, wrap: true, shown: true}
	m.firstStops()
	for i := range m.screens {
		for range m.h {
			m.screens[i] = append(m.screens[i], blanks(m.w, api.Style{}))
		}
	}
}

func (m *model) firstStops() {
	m.stops = map[int]bool{}
	for x := 8; x < m.w; x += 8 {
		m.stops[x] = true
	}
}

func blanks(n int, s api.Style) []api.Cell {
	return slices.Repeat([]api.Cell{{Rune: ' ', Style: s}}, max(0, n))
}

// cleared are cells that are cleared now.
func (m *model) cleared(n int) []api.Cell { return blanks(n, api.Style{Bg: m.style.Bg}) }

func (m *model) write(b []byte) int {
	acts := m.p.Feed(b)
	for _, a := range acts {
		m.act(a)
		if ends(a) {
			m.held = false
		}
		m.mend()
	}
	return len(acts)
}

// ends tells whether the document says of an act that it ends being held.
func ends(a api.Act) bool {
	switch {
	case a.Inter != "" || a.Priv != 0 && a.Priv != '?':
		return false
	case a.Kind == api.Exec:
		return a.Final >= 8 && a.Final <= 13
	case a.Kind == api.Esc:
		return strings.ContainsRune("8DEMc", rune(a.Final))
	case a.Kind == api.Csi && a.Priv == 0:
		return strings.ContainsRune("ABCDEFGdHfXP@LMSTru", rune(a.Final))
	case a.Kind == api.Csi && (a.Final == 'h' || a.Final == 'l'):
		return slices.ContainsFunc(a.Params, func(n int) bool { return n == 6 || n == 1049 || n == 7 && a.Final == 'l' })
	}
	return false
}

// mended is a row, mended from the left.
func mended(row []api.Cell) []api.Cell {
	row = slices.Clone(row)
	half := false // the cell ahead is a wide rune that has its second cell here
	for x, c := range row {
		switch {
		case half:
			half = false
		case glyph.Width(c.Rune) == 2 && x+1 < len(row) && row[x+1].Rune == 0:
			half = true
		case glyph.Width(c.Rune) == 2 || c.Rune == 0:
			row[x].Rune = ' '
		}
	}
	return row
}

func (m *model) mend() {
	for _, rows := range m.screens {
		for y := range rows {
			rows[y] = mended(rows[y])
		}
	}
}

func (m *model) rows() [][]api.Cell { return m.screens[m.alt] }

func (m *model) act(a api.Act) {
	first := -1
	if len(a.Params) > 0 {
		first = a.Params[0]
	}
	switch {
	case a.Kind == api.Print:
		m.print(a.R)
	case a.Kind == api.Str:
		if a.Final == ']' && len(a.Text) >= 2 && (a.Text[:2] == "0;" || a.Text[:2] == "2;") {
			m.title = a.Text[2:]
		}
	case a.Inter != "":
	case a.Kind == api.Exec:
		m.exec(a.Final)
	case a.Kind == api.Esc:
		m.escape(a.Final)
	case a.Priv == '?' && (a.Final == 'h' || a.Final == 'l'):
		for _, n := range a.Params {
			m.mode(n, a.Final == 'h')
		}
	case a.Priv == 0:
		m.move(a, max(1, first))
		m.change(a, first, max(1, first))
		m.say(a, first)
	}
}

func (m *model) print(r rune) {
	w := glyph.Width(r)
	if w == 0 || w > m.w {
		return
	}
	if m.held {
		m.x = 0
		m.feed()
	}
	if w == 2 && m.x == m.w-1 {
		if m.wrap {
			m.x = 0
			m.feed()
		} else {
			m.x = m.w - 2
		}
	}
	cells := []api.Cell{{Rune: r, Style: m.style}, {Rune: 0, Style: m.style}}[:w]
	row := m.rows()[m.y]
	behind := row[m.x+w:]
	if m.insert {
		behind = row[m.x : m.w-w]
	}
	m.rows()[m.y] = slices.Concat(row[:m.x], cells, behind)
	m.x, m.held = m.x+w, false
	if m.x == m.w {
		m.x, m.held = m.w-1, m.wrap
	}
	m.last = []rune{r}
	m.rows()[m.y] = mended(m.rows()[m.y])
}

func (m *model) feed() {
	if m.y == m.bottom {
		m.scroll(m.top, 1, true)
	} else if m.y != m.h-1 {
		m.y++
	}
}

// scroll scrolls the rows from top to the region's bottom up, or down where n is below 0.
func (m *model) scroll(top, n int, keeps bool) {
	rows := slices.Clone(m.rows())
	part := rows[top : m.bottom+1]
	var fresh [][]api.Cell
	for range min(max(n, -n), len(part)) {
		fresh = append(fresh, m.cleared(m.w))
	}
	k := len(fresh)
	if n < 0 {
		part = slices.Concat(fresh, part[:len(part)-k])
	} else {
		if keeps && top == 0 && m.alt == 0 {
			m.bury(part[:k])
		}
		part = slices.Concat(part[k:], fresh)
	}
	m.screens[m.alt] = slices.Concat(rows[:top], part, rows[m.bottom+1:])
}

func (m *model) bury(rows [][]api.Cell) {
	m.past = slices.Concat(m.past, rows)
	m.past = m.past[max(0, len(m.past)-m.most):]
}

func (m *model) exec(b byte) {
	switch b {
	case 7:
		m.bells++
	case 8:
		m.x = max(0, m.x-1)
	case 9:
		x := m.x + 1
		for x < m.w-1 && !m.stops[x] {
			x++
		}
		m.x = min(x, m.w-1)
	case 10, 11, 12:
		m.feed()
	case 13:
		m.x = 0
	}
}

func (m *model) escape(b byte) {
	switch b {
	case '7':
		m.saved[m.alt] = pos{m.x, m.y, m.style}
	case '8':
		s := m.saved[m.alt]
		m.x, m.y, m.style = min(s.x, m.w-1), min(s.y, m.h-1), s.style
	case 'D':
		m.feed()
	case 'E':
		m.x = 0
		m.feed()
	case 'M':
		if m.y == m.top {
			m.scroll(m.top, -1, false)
		} else if m.y != 0 {
			m.y--
		}
	case 'H':
		m.stops[m.x] = true
	case 'c':
		m.begin()
	}
}

func (m *model) rowIs(n int) {
	m.y = min(n-1, m.h-1)
	if m.origin {
		m.y = min(m.top+n-1, m.bottom)
	}
}

// move does what moves the cursor alone.
func (m *model) move(a api.Act, n int) {
	second := 1
	if len(a.Params) > 1 {
		second = max(1, a.Params[1])
	}
	switch a.Final {
	case 'A', 'F':
		if m.y >= m.top {
			m.y = max(m.top, m.y-n)
		} else {
			m.y = max(0, m.y-n)
		}
	case 'B', 'E':
		if m.y <= m.bottom {
			m.y = min(m.bottom, m.y+n)
		} else {
			m.y = min(m.h-1, m.y+n)
		}
	case 'C':
		m.x = min(m.w-1, m.x+n)
	case 'D':
		m.x = max(0, m.x-n)
	case 'G':
		m.x = min(m.w-1, n-1)
	case 'd':
		m.rowIs(n)
	case 'H', 'f':
		m.rowIs(n)
		m.x = min(m.w-1, second-1)
	case 's':
		m.escape('7')
	case 'u':
		m.escape('8')
	}
	if a.Final == 'E' || a.Final == 'F' {
		m.x = 0
	}
}

// clear clears all cells of which it is told so.
func (m *model) clear(told func(x, y int) bool) {
	for y, row := range m.rows() {
		row = slices.Clone(row)
		for x := range row {
			if told(x, y) {
				row[x] = m.cleared(1)[0]
			}
		}
		m.rows()[y] = row
	}
}

// change does what changes cells.
func (m *model) change(a api.Act, first, n int) {
	row := m.rows()[m.y]
	k := min(n, m.w-m.x)
	switch a.Final {
	case 'J', 'K':
		m.clear(func(x, y int) bool {
			switch {
			case a.Final == 'K' && y != m.y:
				return false
			case first <= 0:
				return y > m.y || y == m.y && x >= m.x
			case first == 1:
				return y < m.y || y == m.y && x <= m.x
			}
			return first == 2
		})
		if a.Final == 'J' && first == 3 {
			m.past = nil
		}
	case 'X':
		m.clear(func(x, y int) bool { return y == m.y && x >= m.x && x < m.x+n })
	case 'P':
		m.rows()[m.y] = slices.Concat(row[:m.x], row[m.x+k:], m.cleared(k))
	case '@':
		m.rows()[m.y] = slices.Concat(row[:m.x], m.cleared(k), row[m.x:m.w-k])
	case 'L', 'M':
		if m.y >= m.top && m.y <= m.bottom {
			m.scroll(m.y, map[byte]int{'L': -n, 'M': n}[a.Final], false)
			m.x = 0
		}
	case 'S':
		m.scroll(m.top, n, true)
	case 'T':
		m.scroll(m.top, -n, false)
	case 'b':
		for range min(n, 200) {
			for _, r := range m.last {
				m.print(r)
			}
		}
	}
}

// say does what else there is.
func (m *model) say(a api.Act, first int) {
	switch a.Final {
	case 'g':
		if first <= 0 {
			delete(m.stops, m.x)
		} else if first == 3 {
			clear(m.stops)
		}
	case 'm':
		m.style = sgr.Apply(m.style, a.Params)
	case 'r':
		top, bottom := max(1, first), m.h
		if len(a.Params) > 1 && a.Params[1] >= 1 && a.Params[1] <= m.h {
			bottom = a.Params[1]
		}
		if top < bottom {
			m.top, m.bottom = top-1, bottom-1
			m.rowIs(1)
			m.x = 0
		}
	case 'n':
		row := m.y + 1
		if m.origin {
			row -= m.top
		}
		if first == 5 {
			m.reply("\x1b[0n")
		} else if first == 6 {
			m.reply(fmt.Sprintf("\x1b[%d;%dR", row, m.x+1))
		}
	case 'c':
		if first <= 0 {
			m.reply("\x1b[?1;2c")
		}
	case 'h', 'l':
		if slices.Contains(a.Params, 4) {
			m.insert = a.Final == 'h'
		}
	}
}

func (m *model) reply(s string) {
	if len(m.replies+s) <= 4096 {
		m.replies += s
	}
}

func (m *model) mode(n int, on bool) {
	switch n {
	case 6:
		m.origin = on
		m.rowIs(1)
		m.x = 0
	case 7:
		m.wrap = on
	case 25:
		m.shown = on
	case 1049:
		if on && m.alt == 0 {
			m.escape('7')
			m.alt = 1
			m.clear(func(x, y int) bool { return true })
		} else if !on && m.alt == 1 {
			m.alt = 0
			m.escape('8')
		}
	}
}

func (m *model) resize(w, h int) {
	w, h = within(w, 1, 200), within(h, 1, 200)
	if w == m.w && h == m.h {
		return
	}
	for i, rows := range m.screens {
		for len(rows) > h {
			if i == m.alt && m.y == len(rows)-1 {
				if i == 0 {
					m.bury(rows[:1])
				}
				rows, m.y = rows[1:], m.y-1
			} else {
				rows = rows[:len(rows)-1]
			}
		}
		rows = slices.Clone(rows)
		for len(rows) < h {
			rows = append(rows, nil)
		}
		for y, row := range rows {
			rows[y] = slices.Concat(row, blanks(w-len(row), api.Style{}))[:w]
		}
		m.screens[i] = rows
	}
	m.w, m.h = w, h
	m.x, m.held = min(m.x, w-1), false
	m.top, m.bottom = 0, h-1
	m.firstStops()
	m.mend()
}
