package tok_test

import (
	"math/rand"
	"slices"
	"strings"
	"testing"

	"casement/api"
	"casement/tok"
)

// right are pieces that may stand beside any others of them with a blank between.
var right = []string{"a", "pane", "size", "true", "-", "a.b:c-1", "x_", "0", "1", "-3", "007", "9223372036854775807", "\"\"", "\"a b\"", "\"\\\"\\\\\\n\\t\"", "\"// \u4e2d\xff\"", "{", "}", "=", ";", "\n", "// note\n", "/* a\nb */", "/**/", "\r\n", "\t"}

// wrong are pieces that mostly don't.
var wrong = []string{"\"", "\"a", "\"\\", "\"\\x\"", "\"\n\"", "\\", "/", "/*", "*/", "//", "#", "1x", "9223372036854775808", "-9223372036854775809", "\x00", "\x7f", "\xff", "\u00e9", "'"}

func pick(rnd *rand.Rand, of []string) string { return of[rnd.Intn(len(of))] }

// rightText has no fault.
func rightText(rnd *rand.Rand, most int) string {
	var b strings.Builder
	for range rnd.Intn(most + 1) {
		b.WriteString(pick(rnd, right))
		b.WriteString(pick(rnd, []string{" ", " ", "  ", "\t", "\n", ";", "/* */", " // x\n"}))
	}
	return b.String()
}

// anyText may have some.
func anyText(rnd *rand.Rand, most int) string {
	var b strings.Builder
	for range rnd.Intn(most + 1) {
		if rnd.Intn(12) == 0 {
			b.WriteString(pick(rnd, wrong))
		} else {
			b.WriteString(pick(rnd, right))
		}
		b.WriteString(pick(rnd, []string{"", "", " ", "\n"}))
	}
	return b.String()
}

func TestP7_1_RandomTexts(t *testing.T) {
	rnd := rand.New(rand.NewSource(1))
	for range 30000 {
		answers(t, anyText(rnd, 12))
		answers(t, rightText(rnd, 12))
	}
	for range 100 {
		answers(t, rightText(rnd, 1500))
	}
}

func TestP7_1_RandomBytes(t *testing.T) {
	rnd := rand.New(rand.NewSource(2))
	for range 30000 {
		b := make([]byte, rnd.Intn(30))
		for i := range b {
			b[i] = alphabet[rnd.Intn(len(alphabet))]
			if rnd.Intn(10) == 0 {
				b[i] = byte(rnd.Intn(256))
			}
		}
		answers(t, string(b))
	}
}

func TestP7_1_ChangedTexts(t *testing.T) {
	rnd := rand.New(rand.NewSource(3))
	for range 20000 {
		b := []byte(rightText(rnd, 8))
		if len(b) == 0 {
			continue
		}
		at := rnd.Intn(len(b))
		switch rnd.Intn(3) {
		case 0:
			b[at] = alphabet[rnd.Intn(len(alphabet))]
		case 1:
			b = slices.Delete(b, at, at+1)
		case 2:
			b = b[:at]
		}
		answers(t, string(b))
	}
}

// unplaced are tokens without their places.
func unplaced(ts []api.Token) []api.Token {
	list := slices.Clone(ts)
	for i := range list {
		list[i].At = 0
	}
	return list
}

func TestP7_2_PlacesRise(t *testing.T) {
	rnd := rand.New(rand.NewSource(4))
	for range 20000 {
		text := rightText(rnd, 12)
		ts, fault := tok.Tokens(text)
		_, ends, _ := modelTokens(text)
		if fault != (api.Fault{}) || len(ends) != len(ts) {
			t.Fatalf("Tokens(%q) = %v, %v", text, ts, fault)
		}
		end := 0
		for i, x := range ts {
			if x.At < end {
				t.Fatalf("%q: a token at %d, ahead of where the one before ends", text, x.At)
			}
			if gap := text[end:x.At]; between.FindString(gap) != gap {
				t.Fatalf("%q: %q between tokens", text, gap)
			}
			end = ends[i]
		}
		if gap := text[end:]; between.FindString(gap) != gap {
			t.Fatalf("%q: %q behind all tokens", text, gap)
		}
	}
}

// more are blanks and remarks.
var more = []string{" ", "\t", "\r", "   ", "/**/", "/* { \" 1x # */", " /* a */ ", "/*\x00\x7f*/"}

func TestP7_2_MoreBlanksAndRemarksChangeNothingButPlaces(t *testing.T) {
	rnd := rand.New(rand.NewSource(5))
	for range 20000 {
		text := rightText(rnd, 10)
		want, _ := tok.Tokens(text)
		var b strings.Builder
		from, moved := 0, slices.Clone(want)
		for i, x := range want {
			b.WriteString(text[from:x.At])
			for range rnd.Intn(3) {
				b.WriteString(pick(rnd, more))
			}
			if x.Text == "\n" && x.Kind == api.Break && rnd.Intn(2) == 0 {
				b.WriteString("// more \" /* \x00")
			}
			moved[i].At, from = b.Len(), x.At
		}
		b.WriteString(text[from:])
		b.WriteString(pick(rnd, more))
		if rnd.Intn(2) == 0 {
			b.WriteString("// the last")
		}
		got, fault := tok.Tokens(b.String())
		if !slices.Equal(got, moved) || fault != (api.Fault{}) {
			t.Fatalf("Tokens(%q) = %v, %v, not %v", b.String(), got, fault, moved)
		}
		if !slices.Equal(unplaced(got), unplaced(want)) {
			t.Fatalf("%q and %q: %v and %v", text, b.String(), want, got)
		}
	}
}

// joined is what a text with a Break between two others is to have.
func joined(a, b []api.Token, stop string, at int) []api.Token {
	list := append(slices.Clone(a), api.Token{Kind: api.Break, Text: stop, At: at})
	for _, x := range b {
		x.At += at + 1
		list = append(list, x)
	}
	return list
}

func TestP7_3_TextsWithABreakBetween(t *testing.T) {
	rnd := rand.New(rand.NewSource(6))
	for range 20000 {
		a, b := strings.TrimRight(rightText(rnd, 8), " \n;"), rightText(rnd, 8)
		one, first := tok.Tokens(a)
		two, second := tok.Tokens(b)
		if first != (api.Fault{}) || second != (api.Fault{}) {
			t.Fatalf("%q: %v, %q: %v", a, first, b, second)
		}
		stops := []string{"\n", ";"}
		if strings.Contains(a, "//") {
			stops = stops[:1] // a ; may lie in the remark
		}
		for _, stop := range stops {
			got, fault := tok.Tokens(a + stop + b)
			if want := joined(one, two, stop, len(a)); !slices.Equal(got, want) || fault != (api.Fault{}) {
				t.Fatalf("Tokens(%q) = %v, %v, not %v", a+stop+b, got, fault, want)
			}
		}
	}
}
