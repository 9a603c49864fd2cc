package sgr_test

import (
	"fmt"
	"math/rand"
	"slices"
	"strconv"
	"strings"
	"testing"

	"casement/api"
	"casement/esc"
	"casement/sgr"
)

// isRight is what the chapter says, by bits and blocks.
func isRight(s api.Style) bool {
	return isColour(s.Fg) && isColour(s.Bg) && s.Attr == s.Attr&31
}

func isColour(c int) bool {
	return c == 0 || (c-1)&^255 == 0 || c&^(rgb-1) == rgb
}

func TestP5_1_Right(t *testing.T) {
	for _, s := range rightStyles() {
		if !sgr.Right(s) {
			t.Errorf("Right(%v) = false", s)
		}
	}
	for _, s := range wrongStyles() {
		if sgr.Right(s) {
			t.Errorf("Right(%v) = true", s)
		}
	}
}

func TestP5_1_RightOfManyNumbers(t *testing.T) {
	var ns []int
	for _, middle := range []int{0, 256, rgb, 2 * rgb, 1 << 31, 1 << 32} {
		for d := -600; d <= 600; d++ {
			ns = append(ns, middle+d, -(middle + d))
		}
	}
	for _, n := range ns {
		for _, s := range []api.Style{{Fg: n}, {Bg: n}, {Attr: n}, {Fg: n, Bg: 1, Attr: 1}, {Fg: rgb, Bg: n, Attr: 31}, {Fg: 256, Bg: 9, Attr: n}} {
			if sgr.Right(s) != isRight(s) {
				t.Errorf("Right(%v) = %v", s, sgr.Right(s))
			}
		}
	}
}

func TestP5_1_ParamsTable(t *testing.T) {
	for _, x := range []struct {
		s  api.Style
		ns []int
	}{
		{api.Style{}, []int{0}},
		{api.Style{Attr: api.Bold, Bg: 2}, []int{0, 1, 41}},
		{api.Style{Attr: api.Faint}, []int{0, 2}},
		{api.Style{Attr: api.Italic}, []int{0, 3}},
		{api.Style{Attr: api.Underline}, []int{0, 4}},
		{api.Style{Attr: api.Inverse}, []int{0, 7}},
		{api.Style{Attr: 31}, []int{0, 1, 2, 3, 4, 7}},
		{api.Style{Fg: 1}, []int{0, 30}},
		{api.Style{Fg: 8}, []int{0, 37}},
		{api.Style{Fg: 9}, []int{0, 38, 5, 8}},
		{api.Style{Fg: 16}, []int{0, 38, 5, 15}},
		{api.Style{Fg: 17}, []int{0, 38, 5, 16}},
		{api.Style{Fg: 256}, []int{0, 38, 5, 255}},
		{api.Style{Fg: rgb}, []int{0, 38, 2, 0, 0, 0}},
		{api.Style{Fg: rgb + 66051}, []int{0, 38, 2, 1, 2, 3}},
		{api.Style{Fg: 2*rgb - 1}, []int{0, 38, 2, 255, 255, 255}},
		{api.Style{Bg: 1}, []int{0, 40}},
		{api.Style{Bg: 8}, []int{0, 47}},
		{api.Style{Bg: 9}, []int{0, 48, 5, 8}},
		{api.Style{Bg: 16}, []int{0, 48, 5, 15}},
		{api.Style{Bg: 17}, []int{0, 48, 5, 16}},
		{api.Style{Bg: 256}, []int{0, 48, 5, 255}},
		{api.Style{Bg: rgb}, []int{0, 48, 2, 0, 0, 0}},
		{api.Style{Bg: rgb + 66051}, []int{0, 48, 2, 1, 2, 3}},
		{api.Style{Bg: 2*rgb - 1}, []int{0, 48, 2, 255, 255, 255}},
		{api.Style{Fg: 3, Bg: 200, Attr: 17}, []int{0, 1, 7, 32, 48, 5, 199}},
		{api.Style{Fg: rgb + 1, Bg: rgb + 512, Attr: 31}, []int{0, 1, 2, 3, 4, 7, 38, 2, 0, 0, 1, 48, 2, 0, 2, 0}},
	} {
		if got := sgr.Params(x.s); !slices.Equal(got, x.ns) {
			t.Errorf("Params(%v) = %v, not %v", x.s, got, x.ns)
		}
	}
}

// makes are the numbers that make a right style.
func makes(s api.Style) []int {
	ns := []int{0}
	for i, n := range []int{1, 2, 3, 4, 7} {
		if s.Attr>>i&1 == 1 {
			ns = append(ns, n)
		}
	}
	for i, c := range []int{s.Fg, s.Bg} {
		switch base := 30 + 10*i; {
		case c >= rgb:
			ns = append(ns, base+8, 2, (c-rgb)/65536, c/256%256, c%256)
		case c > 8:
			ns = append(ns, base+8, 5, c-1)
		case c > 0:
			ns = append(ns, base+c-1)
		}
	}
	return ns
}

func TestP5_1_ParamsOfAllKinds(t *testing.T) {
	for _, s := range rightStyles() {
		if got := sgr.Params(s); !slices.Equal(got, makes(s)) {
			t.Errorf("Params(%v) = %v, not %v", s, got, makes(s))
		}
	}
	for c := range 257 {
		for attr := range 32 {
			for _, s := range []api.Style{{Fg: c, Attr: attr}, {Bg: c, Attr: attr}, {Fg: c, Bg: 256 - c, Attr: attr}} {
				if got := sgr.Params(s); !slices.Equal(got, makes(s)) {
					t.Errorf("Params(%v) = %v, not %v", s, got, makes(s))
				}
			}
		}
	}
	for _, s := range wrongStyles() {
		if got := sgr.Params(s); !slices.Equal(got, []int{0}) {
			t.Errorf("Params(%v) = %v", s, got)
		}
	}
}

// writes are the bytes of a sequence of numbers.
func writes(ns []int) string {
	var parts []string
	for _, n := range ns {
		parts = append(parts, strconv.Itoa(n))
	}
	return "\x1b[" + strings.Join(parts, ";") + "m"
}

func TestP5_1_BetweenTable(t *testing.T) {
	none := api.Style{}
	for _, x := range []struct {
		a, b api.Style
		out  string
	}{
		{none, none, ""},
		{full, full, ""},
		{none, api.Style{Fg: 2}, "\x1b[0;31m"},
		{api.Style{Fg: 2}, none, "\x1b[0m"},
		{api.Style{Fg: 2, Attr: 1}, api.Style{Fg: 2}, "\x1b[0;31m"},
		{api.Style{Fg: 2}, api.Style{Fg: 2, Attr: 1}, "\x1b[0;1;31m"},
		{api.Style{Fg: 2}, api.Style{Bg: 2}, "\x1b[0;41m"},
		{none, full, "\x1b[0;1;2;3;4;7;38;5;199;48;2;0;0;5m"},
		{none, api.Style{Fg: 2*rgb - 1, Bg: 2*rgb - 1, Attr: 31}, "\x1b[0;1;2;3;4;7;38;2;255;255;255;48;2;255;255;255m"},
		{api.Style{Fg: 999}, none, ""},
		{none, api.Style{Attr: 32}, ""},
		{api.Style{Fg: 999}, api.Style{Bg: -1}, ""},
		{api.Style{Fg: 999, Bg: 2}, api.Style{Bg: 2}, "\x1b[0;41m"},
		{full, api.Style{Attr: 32}, "\x1b[0m"},
	} {
		if got := sgr.Between(x.a, x.b); string(got) != x.out {
			t.Errorf("Between(%v, %v) = %q, not %q", x.a, x.b, got, x.out)
		}
	}
}

func TestP5_1_BetweenOfAllKinds(t *testing.T) {
	styles := rightStyles()
	for i, a := range styles {
		for step := 1; step < 40; step += 3 {
			b := styles[(i+step*step)%len(styles)]
			want := writes(makes(b))
			if a == b {
				want = ""
			}
			if got := sgr.Between(a, b); string(got) != want {
				t.Fatalf("Between(%v, %v) = %q, not %q", a, b, got, want)
			}
		}
		if got := sgr.Between(a, a); len(got) != 0 {
			t.Errorf("Between(%v, the same) = %q", a, got)
		}
	}
}

func TestP5_1_BetweenTakesWrongStylesForTheZeroStyle(t *testing.T) {
	wrong := wrongStyles()
	for i, w := range wrong {
		if got := sgr.Between(w, wrong[(i*7+1)%len(wrong)]); len(got) != 0 {
			t.Errorf("Between(%v, another wrong one) = %q", w, got)
		}
		if a, b := sgr.Between(w, api.Style{}), sgr.Between(api.Style{}, w); len(a) != 0 || len(b) != 0 {
			t.Errorf("between %v and the zero style: %q, %q", w, a, b)
		}
		if a, b := sgr.Between(w, api.Style{Bg: 2}), sgr.Between(api.Style{Bg: 2}, w); string(a) != "\x1b[0;41m" || string(b) != "\x1b[0m" {
			t.Errorf("between %v and a right style: %q, %q", w, a, b)
		}
	}
}

// comesBack applies a style's numbers to another one.
func comesBack(t *testing.T, from, s api.Style) {
	t.Helper()
	ns := sgr.Params(s)
	if got := sgr.Apply(from, ns); got != s || len(ns) > api.MaxParams {
		t.Fatalf("Apply(%v, Params(%v) = %v) = %v", from, s, ns, got)
	}
}

func TestP5_2_EveryKindComesBack(t *testing.T) {
	froms := append(wrongStyles(), api.Style{}, full, api.Style{Fg: 1, Bg: 1, Attr: 1})
	right := rightStyles()
	for i, s := range right {
		for _, from := range froms {
			comesBack(t, from, s)
		}
		comesBack(t, right[i*5%len(right)], s)
		comesBack(t, s, s)
	}
}

func TestP5_2_EveryColourComesBack(t *testing.T) {
	for c := range 257 {
		for attr := range 32 {
			comesBack(t, full, api.Style{Fg: c, Attr: attr})
			comesBack(t, full, api.Style{Bg: c, Attr: attr})
		}
	}
	for c := rgb; c < 2*rgb; c += 251 { // no divisor of 256: each of the three goes through all it may be
		comesBack(t, full, api.Style{Fg: c, Bg: 3*rgb - 1 - c, Attr: c % 32})
	}
	rnd := rand.New(rand.NewSource(1))
	for range 20000 {
		comesBack(t, someStyle(rnd), someStyle(rnd))
	}
}

func TestP5_2_AStreamComesBack(t *testing.T) {
	styles := append(rightStyles(), wrongStyles()...)
	rnd := rand.New(rand.NewSource(2))
	var p esc.Parser
	var now api.Style
	for range 5000 {
		next := styles[rnd.Intn(len(styles))]
		for _, act := range p.Feed(sgr.Between(now, next)) {
			if act.Kind != api.Csi || act.Final != 'm' || act.Priv != 0 || act.Inter != "" {
				t.Fatalf("Between(%v, %v) says %v", now, next, act)
			}
			now = sgr.Apply(now, act.Params)
		}
		want := next
		if !isRight(next) {
			want = api.Style{}
		}
		if now != want || !p.Idle() {
			t.Fatalf("behind Between(.., %v) is %v", next, now)
		}
	}
}

// spoil writes over a list and its spare room.
func spoil[T any](list []T, v T) {
	list = list[:cap(list)]
	for i := range list {
		list[i] = v
	}
}

func TestP5_4_AnswersAreNewMemory(t *testing.T) {
	for _, s := range append(rightStyles(), wrongStyles()...) {
		ns, others := sgr.Params(s), sgr.Params(s)
		want := fmt.Sprint(others)
		spoil(ns, -77)
		if again := sgr.Params(s); fmt.Sprint(others) != want || fmt.Sprint(again) != want {
			t.Fatalf("Params(%v), where an answer was written over: %v, %v, not %s", s, others, again, want)
		}
		from := api.Style{Fg: 77, Attr: 3}
		b, other := sgr.Between(from, s), sgr.Between(from, s)
		text := string(other)
		spoil(b, 'Z')
		if again := sgr.Between(from, s); string(other) != text || string(again) != text {
			t.Fatalf("Between(%v, %v), where an answer was written over: %q, %q, not %q", from, s, other, again, text)
		}
		if !slices.Equal(sgr.Params(s), others) {
			t.Fatalf("Params(%v) behind Between that was written over: %v, not %v", s, sgr.Params(s), others)
		}
	}
}
