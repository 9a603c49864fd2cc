package sgr_test

import (
	"math"
	"math/rand"
	"slices"

	"casement/api"
)

const rgb = 1 << 24

// rightColours are at what a colour changes its kind, and some between.
var rightColours = []int{0, 1, 2, 7, 8, 9, 10, 15, 16, 17, 18, 200, 255, 256, rgb, rgb + 1, rgb + 255, rgb + 256, rgb + 257, rgb + 65535, rgb + 65536, rgb + 66051, 2*rgb - 2, 2*rgb - 1}

// wrongColours are none; some would be, were they cut to fewer bits.
var wrongColours = []int{math.MinInt, -2 * rgb, -rgb, -257, -256, -2, -1, 257, 258, 1000, 65536, rgb - 1, 2 * rgb, 2*rgb + 1, 3 * rgb, 4*rgb + 5, 1<<32 + 5, 1<<40 + rgb, math.MaxInt}

// wrongMarks are no sums of marks.
var wrongMarks = []int{math.MinInt, -32, -31, -1, 32, 33, 63, 64, 1<<32 + 1, math.MaxInt}

// wrongStyles has one thing wrong in each, and all.
func wrongStyles() []api.Style {
	wrong := []api.Style{{Fg: -1, Bg: -1, Attr: -1}, {Fg: 300, Bg: 300, Attr: 300}}
	for _, c := range wrongColours {
		wrong = append(wrong, api.Style{Fg: c}, api.Style{Bg: c}, api.Style{Fg: c, Bg: 4, Attr: 9}, api.Style{Fg: 200, Bg: c, Attr: 31})
	}
	for _, m := range wrongMarks {
		wrong = append(wrong, api.Style{Attr: m}, api.Style{Fg: 3, Bg: rgb + 9, Attr: m})
	}
	return wrong
}

// rightStyles has each of the colours as Fg and as Bg, with all sums of marks.
func rightStyles() []api.Style {
	var right []api.Style
	for i, c := range rightColours {
		for attr := range 32 {
			other := rightColours[(i+attr)%len(rightColours)]
			right = append(right, api.Style{Fg: c, Bg: other, Attr: attr}, api.Style{Fg: other, Bg: c, Attr: attr})
		}
	}
	return right
}

// setters are what each number does that stands for itself, written out one by one.
func setters() map[int]func(s *api.Style) {
	set := map[int]func(s *api.Style){
		-1: func(s *api.Style) { *s = api.Style{} },
		0:  func(s *api.Style) { *s = api.Style{} },
		1:  func(s *api.Style) { s.Attr |= 1 },
		2:  func(s *api.Style) { s.Attr |= 2 },
		3:  func(s *api.Style) { s.Attr |= 4 },
		4:  func(s *api.Style) { s.Attr |= 8 },
		7:  func(s *api.Style) { s.Attr |= 16 },
		22: func(s *api.Style) { s.Attr &= 28 },
		23: func(s *api.Style) { s.Attr &= 27 },
		24: func(s *api.Style) { s.Attr &= 23 },
		27: func(s *api.Style) { s.Attr &= 15 },
		39: func(s *api.Style) { s.Fg = 0 },
		49: func(s *api.Style) { s.Bg = 0 },
	}
	for i := range 8 {
		set[30+i] = func(s *api.Style) { s.Fg = 1 + i }
		set[40+i] = func(s *api.Style) { s.Bg = 1 + i }
		set[90+i] = func(s *api.Style) { s.Fg = 9 + i }
		set[100+i] = func(s *api.Style) { s.Bg = 9 + i }
	}
	return set
}

// single is made once: the tests ask it for millions of numbers.
var single = setters()

// groups parts numbers: each one stands alone, but a 38 or 48 with those that belong to it.
func groups(ns []int) [][]int {
	var parts [][]int
	for len(ns) > 0 {
		n := 1
		if ns[0] == 38 || ns[0] == 48 {
			n = len(ns)
			if len(ns) >= 3 && ns[1] == 5 {
				n = 3
			} else if len(ns) >= 5 && ns[1] == 2 {
				n = 5
			}
		}
		parts = append(parts, ns[:n])
		ns = ns[n:]
	}
	return parts
}

// apply is what the chapter says of a right style and of numbers of which all count.
func apply(s api.Style, ns []int) api.Style {
	if len(ns) == 0 {
		return api.Style{}
	}
	for _, g := range groups(ns) {
		if g[0] != 38 && g[0] != 48 {
			if set := single[g[0]]; set != nil {
				set(&s)
			}
			continue
		}
		if len(g) < 3 || slices.ContainsFunc(g[2:], func(n int) bool { return n != n&255 }) {
			continue
		}
		c := 0
		switch {
		case g[1] == 5 && len(g) == 3:
			c = g[2] + 1
		case g[1] == 2 && len(g) == 5:
			c = rgb + 65536*g[2] + 256*g[3] + g[4]
		default:
			continue
		}
		if g[0] == 38 {
			s.Fg = c
		} else {
			s.Bg = c
		}
	}
	return s
}

// first are the numbers that count.
func first(ns []int) []int { return ns[:min(len(ns), 16)] }

// numbers are such as mean something, alone or behind others.
var numbers = []int{math.MinInt, -300, -2, -1, 0, 1, 2, 2, 3, 4, 5, 5, 6, 7, 8, 21, 22, 23, 24, 25, 26, 27, 28, 29, 30, 31, 37, 38, 38, 38, 39, 40, 47, 48, 48, 48, 49, 50, 89, 90, 97, 98, 99, 100, 107, 108, 254, 255, 256, 257, 9999, 1 << 32, math.MaxInt}

// someNumbers are any of these, and parts of what tells a colour.
func someNumbers(rnd *rand.Rand, most int) []int {
	var ns []int
	for range rnd.Intn(most + 1) {
		field := 38 + 10*rnd.Intn(2)
		switch rnd.Intn(6) {
		case 0:
			ns = append(ns, field, 5, rnd.Intn(256))
		case 1:
			ns = append(ns, field, 2, rnd.Intn(256), rnd.Intn(256), rnd.Intn(256))
		default:
			ns = append(ns, numbers[rnd.Intn(len(numbers))])
		}
	}
	return ns[:min(len(ns), most)]
}

func someColour(rnd *rand.Rand) int {
	switch rnd.Intn(3) {
	case 0:
		return rnd.Intn(257)
	case 1:
		return rgb + rnd.Intn(rgb)
	}
	return rightColours[rnd.Intn(len(rightColours))]
}

func someStyle(rnd *rand.Rand) api.Style {
	return api.Style{Fg: someColour(rnd), Bg: someColour(rnd), Attr: rnd.Intn(32)}
}
