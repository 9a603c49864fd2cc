package glyph_test

import (
	"bytes"
	"math"
	"math/rand"
	"slices"
	"testing"

	"casement/glyph"
)

const broken = rune(0xfffd)

// edges are the bytes at which what a byte may mean changes.
var edges = []byte{0, 'a', 0x7f, 0x80, 0x8f, 0x90, 0x9f, 0xa0, 0xbf, 0xc0, 0xc1, 0xc2, 0xdf, 0xe0, 0xe1, 0xed, 0xee, 0xef, 0xf0, 0xf1, 0xf4, 0xf5, 0xff}

func isRune(r rune) bool {
	return r >= 0 && r <= 0x10ffff && (r < 0xd800 || r > 0xdfff)
}

// encode is UTF-8's shortest form, by its bits: the tests don't lean on the library that the program leans on.
func encode(r rune) []byte {
	low := func(shift int) byte { return 0x80 | byte(r>>shift)&0x3f }
	switch {
	case r < 0x80:
		return []byte{byte(r)}
	case r < 0x800:
		return []byte{0xc0 | byte(r>>6), low(0)}
	case r < 0x10000:
		return []byte{0xe0 | byte(r>>12), low(6), low(0)}
	}
	return []byte{0xf0 | byte(r>>18), low(12), low(6), low(0)}
}

// decode is the whole rune that begins b, and its bytes; else a broken one of one byte.
func decode(b []byte) (rune, int) {
	for n := 1; n <= min(4, len(b)); n++ {
		r := rune(b[0])
		if n > 1 {
			r &= 0x7f >> n
		}
		for _, c := range b[1:n] {
			r = r<<6 | rune(c&0x3f)
		}
		if isRune(r) && bytes.Equal(encode(r), b[:n]) {
			return r, n
		}
	}
	return broken, 1
}

// beginnings are all bytes that begin a whole rune and aren't one yet.
func beginnings() map[string]bool {
	all := map[string]bool{}
	for r := rune(0); r <= 0x10ffff; r += 64 { // runes of one such block differ in their last byte alone
		if b := encode(r | 63); isRune(r) {
			for n := 1; n < len(b); n++ {
				all[string(b[:n])] = true
			}
		}
	}
	return all
}

// known is what bytes say when more may come, and how many of them wait.
func known(b []byte, begins map[string]bool) ([]rune, int) {
	var rs []rune
	for len(b) > 0 && !begins[string(b)] {
		r, n := decode(b)
		rs = append(rs, r)
		b = b[n:]
	}
	return rs, len(b)
}

// whole is what bytes say when nothing comes any more.
func whole(b []byte) []rune {
	var rs []rune
	for len(b) > 0 {
		r, n := decode(b)
		rs = append(rs, r)
		b = b[n:]
	}
	return rs
}

// edgeTexts goes through all texts of up to n bytes of the edges.
func edgeTexts(n int, yield func(b []byte)) {
	b := make([]byte, 0, n)
	var deeper func()
	deeper = func() {
		yield(b)
		if len(b) == n {
			return
		}
		for _, c := range edges {
			b = append(b, c)
			deeper()
			b = b[:len(b)-1]
		}
	}
	deeper()
}

// randomText is made of whole runes, of runes that are cut off, and of any bytes.
func randomText(rnd *rand.Rand, parts int) []byte {
	var b []byte
	for range parts {
		switch rnd.Intn(4) {
		case 0:
			b = append(b, byte(rnd.Intn(256)))
		case 1:
			b = append(b, edges[rnd.Intn(len(edges))])
		case 2:
			e := encode(rune(rnd.Intn(0xd800)))
			b = append(b, e[:1+rnd.Intn(len(e))]...)
		default:
			b = append(b, encode(0xe000+rune(rnd.Intn(0x110000-0xe000)))...)
		}
	}
	return b
}

func TestP1_1_RunesTable(t *testing.T) {
	for _, x := range []struct {
		in  string
		out []rune
	}{
		{"", nil},
		{"\x00a\x7f", []rune{0, 'a', 127}},
		{"a\xff\u00e9", []rune{'a', broken, 0xe9}},
		{"\ufffd", []rune{broken}},
		{"\xc2\x80\xdf\xbf", []rune{0x80, 0x7ff}},
		{"\xe0\xa0\x80\xef\xbf\xbf", []rune{0x800, 0xffff}},
		{"\xf0\x90\x80\x80\xf4\x8f\xbf\xbf", []rune{0x10000, 0x10ffff}},
		{"\xed\x9f\xbf\xee\x80\x80", []rune{0xd7ff, 0xe000}},
		{"\xc0\x80", []rune{broken, broken}},
		{"\xc1\xbf", []rune{broken, broken}},
		{"\xe0\x9f\xbf", []rune{broken, broken, broken}},
		{"\xf0\x8f\xbf\xbf", []rune{broken, broken, broken, broken}},
		{"\xed\xa0\x80", []rune{broken, broken, broken}},
		{"\xed\xbf\xbf", []rune{broken, broken, broken}},
		{"\xf4\x90\x80\x80", []rune{broken, broken, broken, broken}},
		{"\xf5\x80\x80\x80", []rune{broken, broken, broken, broken}},
		{"\xf8\x88\x80\x80\x80", []rune{broken, broken, broken, broken, broken}},
		{"\x80\xbf", []rune{broken, broken}},
		{"\xe4\xb8", []rune{broken, broken}},
		{"\xf0\x9f\x98", []rune{broken, broken, broken}},
		{"\xe4\xb8a", []rune{broken, broken, 'a'}},
		{"\xf0\xe4\xb8\xad", []rune{broken, 0x4e2d}},
		{"\xe4\xe4\xb8\xad", []rune{broken, 0x4e2d}},
	} {
		if got := glyph.Runes([]byte(x.in)); !slices.Equal(got, x.out) {
			t.Errorf("Runes(%q) = %x, not %x", x.in, got, x.out)
		}
	}
	if got := glyph.Runes(nil); len(got) != 0 {
		t.Errorf("Runes(nil) = %x", got)
	}
}

func TestP1_1_RunesOfAllBytes(t *testing.T) {
	for c := range 256 {
		for d := range 256 {
			if b := []byte{byte(c), byte(d)}; !slices.Equal(glyph.Runes(b), whole(b)) {
				t.Fatalf("Runes(%q) = %x, not %x", b, glyph.Runes(b), whole(b))
			}
		}
	}
	edgeTexts(4, func(b []byte) {
		if got := glyph.Runes(b); !slices.Equal(got, whole(b)) {
			t.Fatalf("Runes(%q) = %x, not %x", b, got, whole(b))
		}
	})
}

func TestP1_1_BytesTable(t *testing.T) {
	for _, x := range []struct {
		in  []rune
		out string
	}{
		{nil, ""},
		{[]rune{}, ""},
		{[]rune{0, 'a', 127}, "\x00a\x7f"},
		{[]rune{0x80, 0x7ff, 0x800, 0xffff, 0x10000, 0x10ffff}, "\xc2\x80\xdf\xbf\xe0\xa0\x80\xef\xbf\xbf\xf0\x90\x80\x80\xf4\x8f\xbf\xbf"},
		{[]rune{0xd7ff, 0xe000}, "\xed\x9f\xbf\xee\x80\x80"},
		{[]rune{0xd800, 0xdfff}, "\xef\xbf\xbd\xef\xbf\xbd"},
		{[]rune{-1, 0x110000}, "\xef\xbf\xbd\xef\xbf\xbd"},
		{[]rune{math.MinInt32, 'x', math.MaxInt32}, "\xef\xbf\xbdx\xef\xbf\xbd"},
		{[]rune{broken}, "\xef\xbf\xbd"},
	} {
		if got := glyph.Bytes(x.in); string(got) != x.out {
			t.Errorf("Bytes(%x) = %q, not %q", x.in, got, x.out)
		}
	}
}

func TestP1_1_FeedTellsWhatIsKnown(t *testing.T) {
	begins := beginnings()
	var r glyph.Reader
	edgeTexts(4, func(b []byte) {
		told, rest := r.Feed(b), r.Waits()
		want, waits := known(b, begins)
		if !slices.Equal(told, want) || rest != waits {
			t.Fatalf("Feed(%q) = %x, %d wait, not %x, %d", b, told, rest, want, waits)
		}
		end := r.Rest()
		if !slices.Equal(end, slices.Repeat([]rune{broken}, waits)) || r.Waits() != 0 || len(r.Rest()) != 0 {
			t.Fatalf("behind Feed(%q): Rest = %x, %d wait", b, end, r.Waits())
		}
	})
}

func TestP1_1_ReaderTable(t *testing.T) {
	var r glyph.Reader
	if r.Waits() != 0 || len(r.Rest()) != 0 || len(r.Feed(nil)) != 0 {
		t.Error("a Reader's zero value isn't ready")
	}
	for _, x := range []struct {
		in    string
		out   []rune
		waits int
	}{
		{"\xe4\xb8", nil, 2},
		{"", nil, 2},
		{"\xad", []rune{0x4e2d}, 0},
		{"\xf0\x9f\x98", nil, 3},
		{"\xf0", []rune{broken, broken, broken}, 1},
		{"\x9f\x98", nil, 3},
		{"\x80\xc3", []rune{0x1f600}, 1},
		{"a", []rune{broken, 'a'}, 0},
		{"\xed", nil, 1},
		{"\xa0", []rune{broken, broken}, 0},
		{"\xe0", nil, 1},
		{"\x9f", []rune{broken, broken}, 0},
		{"\xf4", nil, 1},
		{"\x90", []rune{broken, broken}, 0},
		{"\xc0", []rune{broken}, 0},
		{"\xf5", []rune{broken}, 0},
		{"\xef\xbf", nil, 2},
		{"\xbd", []rune{broken}, 0},
	} {
		if got := r.Feed([]byte(x.in)); !slices.Equal(got, x.out) || r.Waits() != x.waits {
			t.Errorf("Feed(%q) = %x, %d wait, not %x, %d", x.in, got, r.Waits(), x.out, x.waits)
		}
	}
}

func TestP1_2_EveryCutOfShortTexts(t *testing.T) {
	edgeTexts(3, func(b []byte) {
		for cuts := range 1 << max(0, len(b)-1) {
			var r glyph.Reader
			var told []rune
			from := 0
			for i := range b {
				if i == len(b)-1 || cuts>>i&1 == 1 {
					told = append(told, r.Feed(b[from:i+1])...)
					from = i + 1
				}
			}
			if told = append(told, r.Rest()...); !slices.Equal(told, glyph.Runes(b)) {
				t.Fatalf("%q, cut as in %b: %x, not %x", b, cuts, told, glyph.Runes(b))
			}
		}
	})
}

func TestP1_2_ByteByByte(t *testing.T) {
	begins := beginnings()
	edgeTexts(4, func(b []byte) {
		var r glyph.Reader
		var told []rune
		for i := range b {
			told = append(told, r.Feed(b[i:i+1])...)
		}
		if want, waits := known(b, begins); !slices.Equal(told, want) || r.Waits() != waits {
			t.Fatalf("%q byte by byte: %x, %d wait, not %x, %d", b, told, r.Waits(), want, waits)
		}
	})
}

func TestP1_2_LongTexts(t *testing.T) {
	rnd := rand.New(rand.NewSource(1))
	for range 300 {
		b := randomText(rnd, rnd.Intn(400))
		var r glyph.Reader
		var told []rune
		for rest := b; len(rest) > 0; {
			n := min(rnd.Intn(9), len(rest))
			told = append(told, r.Feed(rest[:n])...)
			rest = rest[n:]
			if w := r.Waits(); w < 0 || w > 3 {
				t.Fatalf("%d bytes wait", w)
			}
		}
		told = append(told, r.Rest()...)
		if !slices.Equal(told, glyph.Runes(b)) || !slices.Equal(told, whole(b)) {
			t.Fatalf("%q in pieces: %x, not %x", b, told, whole(b))
		}
	}
}

func TestP1_3_EveryRuneIsReadBack(t *testing.T) {
	for r := rune(0); r <= 0x10ffff; r++ {
		if !isRune(r) {
			continue
		}
		b := glyph.Bytes([]rune{r})
		if !bytes.Equal(b, encode(r)) {
			t.Fatalf("Bytes(%x) = %x", r, b)
		}
		if got := glyph.Runes(b); len(got) != 1 || got[0] != r {
			t.Fatalf("Runes(%x) = %x, not %x", b, got, r)
		}
	}
}

func TestP1_3_WhatIsWrittenIsReadAsTheSame(t *testing.T) {
	rnd := rand.New(rand.NewSource(2))
	for range 300 {
		rs := glyph.Runes(randomText(rnd, rnd.Intn(200)))
		if got := glyph.Runes(glyph.Bytes(rs)); !slices.Equal(got, rs) {
			t.Fatalf("%x is read back as %x", rs, got)
		}
	}
	all := []rune{0, 'a', 0x7f, 0x80, 0x7ff, 0x800, 0xd7ff, 0xe000, broken, 0xffff, 0x10000, 0x10ffff}
	if got := glyph.Runes(glyph.Bytes(all)); !slices.Equal(got, all) {
		t.Errorf("%x is read back as %x", all, got)
	}
}

// room has the text at its beginning, and marks behind the end that a list may see.
func room(text string) []byte {
	return append([]byte(text), "0123456789"...)[:len(text)]
}

// spoil writes over a list and its spare room.
func spoil[T any](list []T, v T) {
	list = list[:cap(list)]
	for i := range list {
		list[i] = v
	}
}

// untouched tells whether the memory that room made still is as it was.
func untouched(b []byte, text string) bool {
	return string(b[:len(text)+10]) == text+"0123456789"
}

func TestP1_4_RunesAndBytesAreNewMemory(t *testing.T) {
	text := "a\xff\u4e2d\xe4\xb8"
	b := room(text)
	first, second := glyph.Runes(b), glyph.Runes(b)
	spoil(first, 'z')
	if !untouched(b, text) || !slices.Equal(second, whole([]byte(text))) {
		t.Errorf("behind a Runes whose answer was written over: %q, %x", b, second)
	}
	backing := []rune{'a', 0x4e2d, -1, 'x', 'y', 'z'}
	rs := backing[:3]
	one, two := glyph.Bytes(rs), glyph.Bytes(rs)
	spoil(one, 'z')
	if !slices.Equal(backing, []rune{'a', 0x4e2d, -1, 'x', 'y', 'z'}) || string(two) != "a\u4e2d\ufffd" {
		t.Errorf("behind a Bytes whose answer was written over: %x, %q", backing, two)
	}
}

func TestP1_4_ReaderKeepsNothing(t *testing.T) {
	var r, other glyph.Reader
	for range 3 {
		b := room("x\xf0\x9f")
		other.Feed([]byte("\xe4\xb8"))
		if got := r.Feed(b); !slices.Equal(got, []rune{'x'}) || !untouched(b, "x\xf0\x9f") {
			t.Errorf("Feed = %x, leaves %q", got, b[:cap(b)])
		} else {
			spoil(got, 'z')
		}
		spoil(b, 'z')
		c := room("\x98")
		if got := r.Feed(c); len(got) != 0 || r.Waits() != 3 || !untouched(c, "\x98") {
			t.Errorf("Feed of what goes on = %x, %d wait", got, r.Waits())
		}
		spoil(c, 'z')
		if got := r.Feed([]byte("\x80y\xe4")); !slices.Equal(got, []rune{0x1f600, 'y'}) {
			t.Errorf("Feed behind bytes that were written over = %x", got)
		} else {
			spoil(got, 'z')
		}
		if got := r.Rest(); !slices.Equal(got, []rune{broken}) {
			t.Errorf("Rest = %x", got)
		} else {
			spoil(got, 'z')
		}
		if got := other.Feed([]byte("\xad")); !slices.Equal(got, []rune{0x4e2d}) {
			t.Errorf("another Reader tells %x", got)
		}
	}
}
