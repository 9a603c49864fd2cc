package esc_test

import (
	"math/rand"
	"slices"
	"strings"
	"testing"

	"casement/api"
	"casement/esc"
)

const broken = rune(0xfffd)

func prints(rs ...rune) []api.Act {
	var acts []api.Act
	for _, r := range rs {
		acts = append(acts, api.Act{Kind: api.Print, R: r})
	}
	return acts
}

func exec(final byte) api.Act { return api.Act{Kind: api.Exec, Final: final} }

func escape(inter string, final byte) api.Act {
	return api.Act{Kind: api.Esc, Inter: inter, Final: final}
}

func csi(final byte, params ...int) api.Act {
	return api.Act{Kind: api.Csi, Final: final, Params: params}
}

func private(priv, final byte, params ...int) api.Act {
	return api.Act{Kind: api.Csi, Priv: priv, Final: final, Params: params}
}

func inter(inter string, final byte, params ...int) api.Act {
	return api.Act{Kind: api.Csi, Inter: inter, Final: final, Params: params}
}

func str(final byte, text string) api.Act {
	return api.Act{Kind: api.Str, Final: final, Text: text}
}

func acts(some ...api.Act) []api.Act { return some }

// row is some bytes, and what they say.
type row struct {
	in   string
	out  []api.Act
	idle bool
}

// says feeds a row's bytes at once, and byte by byte; and it holds the model to the row, that the other tests lean on.
func (x row) says(t *testing.T) {
	t.Helper()
	var p, q esc.Parser
	got := p.Feed([]byte(x.in))
	if !sameActs(got, x.out) || p.Idle() != x.idle {
		t.Errorf("%q says %v, idle %v; not %v, %v", x.in, got, p.Idle(), x.out, x.idle)
	}
	var parts []api.Act
	for i := range len(x.in) {
		parts = append(parts, q.Feed([]byte(x.in[i:i+1]))...)
	}
	if !sameActs(parts, x.out) || q.Idle() != x.idle {
		t.Errorf("%q byte by byte says %v, idle %v; not %v, %v", x.in, parts, q.Idle(), x.out, x.idle)
	}
	if want, idle := says([]byte(x.in)); !sameActs(want, x.out) || idle != x.idle {
		t.Errorf("the model is wrong: %q says %v, idle %v; not %v, %v", x.in, want, idle, x.out, x.idle)
	}
}

func TestP4_1_ZeroValueIsReady(t *testing.T) {
	var p esc.Parser
	if !p.Idle() || len(p.Feed(nil)) != 0 || len(p.Feed([]byte{})) != 0 || !p.Idle() {
		t.Error("a Parser's zero value isn't ready")
	}
}

func TestP4_1_Examples(t *testing.T) {
	for _, x := range []row{
		{"a\x1b[1;;5H", append(prints('a'), csi('H', 1, -1, 5)), true},
		{"\x1b]0;hi\x07", acts(str(']', "0;hi")), true},
		{"\x1b(B", acts(escape("(", 'B')), true},
		{"\xc3\x1b[m", append(prints(broken), csi('m')), true},
	} {
		x.says(t)
	}
}

func TestP4_1_Ground(t *testing.T) {
	for _, x := range []row{
		{"", nil, true},
		{" ~", prints(' ', '~'), true},
		{"\u00e9\u4e2d\U0001f600", prints(0xe9, 0x4e2d, 0x1f600), true},
		{"\x80\x9b\xa0", prints(broken, broken, broken), true},
		{"\xc2\x80\xc2\x9b", prints(0x80, 0x9b), true}, // 128 to 159 are runes here, no commands
		{"\xed\xa0\x80\xf5", prints(broken, broken, broken, broken), true},
		{"\x00\x07\x1f", acts(exec(0), exec(7), exec(31)), true},
		{"\x18\x1a\x7f", nil, true},
		{"\xc3", nil, false},
		{"\xe4\xb8", nil, false},
		{"\xf0\x9f\x98", nil, false},
		{"\xe4\xb8a", prints(broken, broken, 'a'), true},
		{"\xe4\xb8\x07", append(prints(broken, broken), exec(7)), true},
		{"\xe4\xb8\x18", prints(broken, broken), true},
		{"\xe4\xb8\x1a", prints(broken, broken), true},
		{"\xe4\xb8\x7f", prints(broken, broken), true},
		{"\xe4\xb8\x7f\xad", prints(broken, broken, broken), true},
		{"\xf0\x9f\x98\x1b", prints(broken, broken, broken), false},
		{"\xf0\x9f\x98\x1b]x\x07", append(prints(broken, broken, broken), str(']', "x")), true},
		{"\xe4\xb8\xe4\xb8\xad", prints(broken, broken, 0x4e2d), true},
	} {
		x.says(t)
	}
}

func TestP4_1_EachByteByItself(t *testing.T) {
	for c := range 256 {
		for _, before := range []string{"", "\x1b", "\x1b(", "\x1b[", "\x1b[1", "\x1b[!", "\x1b]", "\x1b]x", "\x1b]x\x1b", "\x1b#!", "\xc3", "\xe4\xb8"} {
			in := before + string([]byte{byte(c)})
			out, idle := says([]byte(in))
			row{in, out, idle}.says(t)
		}
	}
}

func TestP4_1_Escapes(t *testing.T) {
	for _, x := range []row{
		{"\x1b", nil, false},
		{"\x1bM", acts(escape("", 'M')), true},
		{"\x1b0\x1b~", acts(escape("", '0'), escape("", '~')), true},
		{"\x1b\\", acts(escape("", '\\')), true},
		{"\x1b#8", acts(escape("#", '8')), true},
		{"\x1b (B", acts(escape(" (", 'B')), true},
		{"\x1b/", nil, false},
		{"\x1b([", acts(escape("(", '[')), true}, // behind an Inter no sequence begins
		{"\x1b(]\x1b(P\x1b(X\x1b(^\x1b(_", acts(escape("(", ']'), escape("(", 'P'), escape("(", 'X'), escape("(", '^'), escape("(", '_')), true},
		{"\x1b###D", nil, true},
		{"\x1b####[1mA", prints('1', 'm', 'A'), true},
		{"\x1b###", nil, false},
		{"\x1b\x80A", prints('A'), true},
		{"\x1b(\xffA", prints('A'), true},
		{"\x1b\xc3\xa9", prints(broken), true},
		{"\x1b\x07M", acts(exec(7), escape("", 'M')), true},
		{"\x1b(\x00B", acts(exec(0), escape("(", 'B')), true},
		{"\x1b\x7fM", acts(escape("", 'M')), true},
		{"\x1b(\x7fB", acts(escape("(", 'B')), true},
		{"\x1b\x18M", prints('M'), true},
		{"\x1b(\x1aM", prints('M'), true},
		{"\x1b(\x1bM", acts(escape("", 'M')), true},
		{"\x1b###\x1bM", acts(escape("", 'M')), true},
		{"\x1b\x1b\x1bM", acts(escape("", 'M')), true},
	} {
		x.says(t)
	}
}

func TestP4_1_ControlSequences(t *testing.T) {
	for _, x := range []row{
		{"\x1b[", nil, false},
		{"\x1b[m", acts(csi('m')), true},
		{"\x1b[@\x1b[~\x1b[[", acts(csi('@'), csi('~'), csi('[')), true},
		{"\x1b[?25l", acts(private('?', 'l', 25)), true},
		{"\x1b[<m\x1b[=m\x1b[>m\x1b[?m", acts(private('<', 'm'), private('=', 'm'), private('>', 'm'), private('?', 'm')), true},
		{"\x1b[1 q", acts(inter(" ", 'q', 1)), true},
		{"\x1b[!p", acts(inter("!", 'p')), true},
		{"\x1b[?1;2!/p", acts(api.Act{Kind: api.Csi, Priv: '?', Params: []int{1, 2}, Inter: "!/", Final: 'p'}), true},
		{"\x1b[1\x08A", acts(exec(8), csi('A', 1)), true},
		{"\x1b[1\x002A", acts(exec(0), csi('A', 12)), true},
		{"\x1b[\x07?1h", acts(exec(7), private('?', 'h', 1)), true}, // a control byte is none of the sequence's
		{"\x1b[\x7f?\x7f1\x7fh", acts(private('?', 'h', 1)), true},
		{"\x1b[ \x1f!p", acts(exec(31), inter(" !", 'p')), true},
		{"\x1b[1\x18A", prints('A'), true},
		{"\x1b[1\x1aA", prints('A'), true},
		{"\x1b[1\x80A", prints('A'), true},
		{"\x1b[1\xc3\xa9", prints(broken), true},
		{"\x1b[1\x1b[2A", acts(csi('A', 2)), true},
		{"\x1b[?1\x1b[2A", acts(csi('A', 2)), true},
		{"\x1b[1\x1bM", acts(escape("", 'M')), true},
		{"\x1b[!\x1bM", acts(escape("", 'M')), true},
		{"\x1b[1:2\x1b[3m", acts(csi('m', 3)), true},
		{"\x1b[?1h\x1b[2l", acts(private('?', 'h', 1), csi('l', 2)), true},
		{"\x1b[ q\x1b[q", acts(inter(" ", 'q'), csi('q')), true},
	} {
		x.says(t)
	}
}

func TestP4_1_SpoiledSequences(t *testing.T) {
	for _, in := range []string{
		"\x1b[:m", "\x1b[1:2m", "\x1b[1;:m", "\x1b[?:h",
		"\x1b[1<m", "\x1b[;?m", "\x1b[1;2=m", "\x1b[1>m", "\x1b[??h", "\x1b[?<h", "\x1b[<=h", "\x1b[:?h",
		"\x1b[ 1m", "\x1b[!;m", "\x1b[!?m", "\x1b[1!2m", "\x1b[!:m", "\x1b[!!0m",
		"\x1b[!!!m", "\x1b[!\"#$m", "\x1b[1    q", "\x1b[?1!!!p", "\x1b[!!!1m",
		"\x1b###D", "\x1b ()B", "\x1b////[", "\x1b####]",
		"\x1b[" + strings.Repeat("1;", 20) + ":m",
	} {
		row{in, nil, true}.says(t)
		row{in + "\x1b[4m", acts(csi('m', 4)), true}.says(t)
		row{in + "x", prints('x'), true}.says(t)
		row{in[:len(in)-1] + "\x07" + in[len(in)-1:], acts(exec(7)), true}.says(t)
		row{in[:len(in)-1], nil, false}.says(t)
	}
}

func TestP4_1_Parameters(t *testing.T) {
	of := func(n int) []int {
		var list []int
		for i := range min(n, 16) {
			list = append(list, i)
		}
		return list
	}
	sixteen := "0;1;2;3;4;5;6;7;8;9;10;11;12;13;14;15"
	for _, x := range []struct {
		in  string
		out []int
	}{
		{"", nil},
		{";", []int{-1, -1}},
		{";;", []int{-1, -1, -1}},
		{"0", []int{0}},
		{"00", []int{0}},
		{"7;", []int{7, -1}},
		{";7", []int{-1, 7}},
		{"0007;0", []int{7, 0}},
		{"1;;5", []int{1, -1, 5}},
		{"9998;9999;10000", []int{9998, 9999, 9999}},
		{"99990", []int{9999}},
		{"99999;1", []int{9999, 1}},
		{"000000000000000012", []int{12}},
		{"18446744073709551616", []int{9999}}, // 2^64
		{"9223372036854775808;4294967297", []int{9999, 9999}},
		{strings.Repeat("9", 100), []int{9999}},
		{strings.Repeat("0", 100) + "1", []int{1}},
		{sixteen, of(16)},
		{sixteen + ";", of(16)},
		{sixteen + ";16", of(16)},
		{sixteen + ";16;17;99999", of(16)},
		{sixteen + "9;8", append(of(15), 159)},
		{strings.Repeat(";", 14), slices.Repeat([]int{-1}, 15)},
		{strings.Repeat(";", 15), slices.Repeat([]int{-1}, 16)},
		{strings.Repeat(";", 16), slices.Repeat([]int{-1}, 16)},
		{strings.Repeat(";", 15) + "5", append(slices.Repeat([]int{-1}, 15), 5)},
		{strings.Repeat(";", 16) + "5", slices.Repeat([]int{-1}, 16)},
		{strings.Repeat(";5", 1000), append([]int{-1}, slices.Repeat([]int{5}, 15)...)},
	} {
		row{"\x1b[" + x.in + "m", acts(csi('m', x.out...)), true}.says(t)
		row{"\x1b[>" + x.in + "m", acts(private('>', 'm', x.out...)), true}.says(t)
		row{"\x1b[" + x.in + "!m", acts(inter("!", 'm', x.out...)), true}.says(t)
	}
}

func TestP4_1_Strings(t *testing.T) {
	long := strings.Repeat("0123456789abcdef", 16)
	for _, x := range []row{
		{"\x1b]\x07\x1bP\x07\x1bX\x07\x1b^\x07\x1b_\x07", acts(str(']', ""), str('P', ""), str('X', ""), str('^', ""), str('_', "")), true},
		{"\x1bPq\x1b\\", acts(str('P', "q")), true},
		{"\x1b]", nil, false},
		{"\x1b]abc", nil, false},
		{"\x1b]abc\x1b", nil, false},
		{"\x1b]x\x18A", prints('A'), true},
		{"\x1b]x\x1aA", prints('A'), true},
		{"\x1b]a\x00\n\x1fb\x07", acts(str(']', "ab")), true},
		{"\x1b] ~\x7f\x80\xff\\\x07", acts(str(']', " ~\x7f\x80\xff\\")), true},
		{"\x1b]\xc3\x07\xa9", append(acts(str(']', "\xc3")), prints(broken)...), true},
		{"\x1b]\xe4\xb8\xad\x1b\\", acts(str(']', "\u4e2d")), true},
		{"\x1b][1m\x07", acts(str(']', "[1m")), true},
		{"\x1b]" + long[:255] + "\x07", acts(str(']', long[:255])), true},
		{"\x1b]" + long + "\x07", acts(str(']', long)), true},
		{"\x1b]" + long + "z\x07", acts(str(']', long)), true},
		{"\x1b]" + long + long + "\x1b\\", acts(str(']', long)), true},
		{"\x1b]" + long + "\nz\x18A", prints('A'), true},
		{"\x1b]" + long + "z\x1b]y\x07", acts(str(']', "y")), true},
		{"\x1b]x\x07\x1bPy\x07", acts(str(']', "x"), str('P', "y")), true},
		{"\x1b]x\x1b\\\x1b\\", acts(str(']', "x"), escape("", '\\')), true},
	} {
		x.says(t)
	}
}

func TestP4_1_StringsThatAreDropped(t *testing.T) {
	for _, x := range []row{
		{"\x1b]x\x1bM", acts(escape("", 'M')), true},
		{"\x1b]x\x1b(B", acts(escape("(", 'B')), true},
		{"\x1b]x\x1b[1m", acts(csi('m', 1)), true},
		{"\x1b]x\x1b]y\x07", acts(str(']', "y")), true},
		{"\x1b]x\x1bPy\x1b\\", acts(str('P', "y")), true},
		{"\x1b]x\x1b\x1b\\", acts(escape("", '\\')), true},
		{"\x1b]x\x1b\x1b]y\x1b\\", acts(str(']', "y")), true},
		{"\x1b]x\x1b\x07M", acts(exec(7), escape("", 'M')), true},
		{"\x1b]x\x1b\x00\\", acts(exec(0), escape("", '\\')), true},
		{"\x1b]x\x1b\x7f\\", acts(escape("", '\\')), true},
		{"\x1b]x\x1b\x18\\", prints('\\'), true},
		{"\x1b]x\x1b\x1a\x07", acts(exec(7)), true},
		{"\x1b]x\x1b\x80\\", prints('\\'), true},
		{"\x1b]x\x1b\x1b", nil, false},
		{"\x1b]x\x1b\x07", acts(exec(7)), false},
	} {
		x.says(t)
	}
}

// kinds are bytes at which what a byte means changes, in some state.
const kinds = "\x00\x06\x07\x08\x18\x1a\x1b\x1f !/0159:;<?@A[\\]PX_~\x7f\x80\xad\xc3\xe4\xf0\xff"

// begins are what brings a parser into each of its states.
var begins = []string{"", "\x1b", "\x1b(", "\x1b((", "\x1b(((", "\x1b[", "\x1b[?", "\x1b[1", "\x1b[1;", "\x1b[!", "\x1b[!!", "\x1b[:", "\x1b]", "\x1bPab", "\x1b]ab\x1b", "\xc3", "\xe4\xb8", "\xf0\x9f\x98", "\x1b[" + strings.Repeat("7;", 15), "\x1b]" + strings.Repeat("z", 255)}

func TestP4_1_EveryFewBytesOfEveryState(t *testing.T) {
	for _, begin := range begins {
		for _, a := range []byte(kinds) {
			for _, b := range []byte(kinds) {
				for _, end := range []string{"", "m", "\x07", "1:A", "\\"} {
					in := []byte(begin + string([]byte{a, b}) + end)
					var p esc.Parser
					got := p.Feed(in)
					if want, idle := says(in); !sameActs(got, want) || p.Idle() != idle {
						t.Fatalf("%q says %v, idle %v; not %v, %v", in, got, p.Idle(), want, idle)
					}
				}
			}
		}
	}
}

// stream is made of right sequences, of parts of such, of text, and of any bytes.
func stream(rnd *rand.Rand, parts int) []byte {
	right := []string{"\x1b[1;2H", "\x1b[?1049;25h", "\x1b[38;5;300m", "\x1b]0;title\x07", "\x1bPq\x1b\\", "\x1b(B", "\x1b7", "ab\u00e9\u4e2d\U0001f600", "\r\n", "\x1b[!!p", "\x1b[1:2m", "\x1b###D", "\x1b]" + strings.Repeat("z", 300) + "\x1b\\", "\x1b[" + strings.Repeat("12;", 30) + "m"}
	var b []byte
	for range parts {
		part := right[rnd.Intn(len(right))]
		switch rnd.Intn(5) {
		case 0:
			b = append(b, part...)
		case 1:
			b = append(b, part[:1+rnd.Intn(len(part))]...)
		case 2:
			from := rnd.Intn(len(part))
			b = append(b, part[from:]...)
		case 3:
			b = append(b, kinds[rnd.Intn(len(kinds))], kinds[rnd.Intn(len(kinds))])
		default:
			b = append(b, byte(rnd.Intn(256)))
		}
	}
	return b
}

func TestP4_1_LongStreams(t *testing.T) {
	rnd := rand.New(rand.NewSource(1))
	for range 3000 {
		in := stream(rnd, rnd.Intn(40))
		var p esc.Parser
		got := p.Feed(in)
		if want, idle := says(in); !sameActs(got, want) || p.Idle() != idle {
			t.Fatalf("%q says %v, idle %v; not %v, %v", in, got, p.Idle(), want, idle)
		}
	}
}

func TestP4_2_EveryCut(t *testing.T) {
	rnd := rand.New(rand.NewSource(2))
	ins := []string{
		"a\x1b[1;;5Hb", "\x1b]0;hi\x07", "\x1bPq\x1b\\z", "\x1b]a\x1b\x1b\\", "\x1b]x\x1b[1m", "\x1b[?12;99999\x08!!p", "\x1b###D", "\x1b[1:2m\x7f",
		"\xe4\xb8\xad\xe4\xb8\x1b\xe4\xf0\x9f\x98\x80\xc3\x18\xa9", "\x1b]" + strings.Repeat("y", 258) + "\x1b\\", "\x1b[" + strings.Repeat("31;", 18) + "m",
	}
	for range 200 {
		ins = append(ins, string(stream(rnd, 6)))
	}
	for _, in := range ins {
		want, idle := says([]byte(in))
		for i := range len(in) + 1 {
			var p esc.Parser
			got := append(p.Feed([]byte(in[:i])), p.Feed([]byte(in[i:]))...)
			if !sameActs(got, want) || p.Idle() != idle {
				t.Fatalf("%q, cut at %d, says %v, idle %v; not %v, %v", in, i, got, p.Idle(), want, idle)
			}
			before, wasIdle := says([]byte(in[:i]))
			var q esc.Parser
			if got := q.Feed([]byte(in[:i])); !sameActs(got, before) || q.Idle() != wasIdle {
				t.Fatalf("%q says %v, idle %v; not %v, %v", in[:i], got, q.Idle(), before, wasIdle)
			}
		}
	}
}

func TestP4_2_ManyPieces(t *testing.T) {
	rnd := rand.New(rand.NewSource(3))
	for range 2000 {
		in := stream(rnd, rnd.Intn(40))
		var whole, p esc.Parser
		want := whole.Feed(in)
		most := 1 + rnd.Intn(12)
		var got []api.Act
		for rest := in; len(rest) > 0; {
			n := min(rnd.Intn(most+1), len(rest)) // pieces without bytes, too
			got = append(got, p.Feed(rest[:n])...)
			rest = rest[n:]
		}
		if !sameActs(got, want) || p.Idle() != whole.Idle() {
			t.Fatalf("%q in pieces says %v, idle %v; not %v, %v", in, got, p.Idle(), want, whole.Idle())
		}
	}
}

// spoil writes over a list and its spare room.
func spoil[T any](list []T, v T) {
	list = list[:cap(list)]
	for i := range list {
		list[i] = v
	}
}

// spoilActs writes over all that acts lead to.
func spoilActs(acts []api.Act) {
	for _, a := range acts {
		spoil(a.Params, -77)
	}
	spoil(acts, api.Act{Kind: 99, Text: "spoilt"})
}

func TestP4_4_NothingIsKept(t *testing.T) {
	rnd := rand.New(rand.NewSource(4))
	for range 500 {
		in := stream(rnd, 12)
		want, _ := says(in)
		var p esc.Parser
		var got []api.Act
		for rest := in; len(rest) > 0; {
			n := 1 + rnd.Intn(min(9, len(rest)))
			const behind = "0123456789"
			piece := append(slices.Clone(rest[:n]), behind...)
			told := p.Feed(piece[:n])
			if string(piece) != string(rest[:n])+behind {
				t.Fatalf("Feed(%q) leaves %q", rest[:n], piece)
			}
			spoil(piece, 'Z')
			for _, a := range told {
				a.Params = slices.Clone(a.Params)
				got = append(got, a)
			}
			spoilActs(told)
			rest = rest[n:]
		}
		if !sameActs(got, want) {
			t.Fatalf("%q, written over behind each piece, says %v, not %v", in, got, want)
		}
	}
}

func TestP4_4_ActsAreNewMemory(t *testing.T) {
	in := []byte("\x1b[1;2;3H\x1b[4;5m\x1b[6m\x1b[" + strings.Repeat("7;", 20) + "m\x1b]text\x07\x1b[8;9")
	want, _ := says(in)
	for i := range want {
		var p, q esc.Parser
		one, other, again := p.Feed(in), q.Feed(in), p.Feed([]byte("m"))
		spoil(one[i].Params, -77)
		one[i] = want[i]
		if !sameActs(one, want) {
			t.Errorf("behind act %d, whose numbers were written over: %v", i, one)
		}
		if !sameActs(other, want) || !sameActs(again, acts(csi('m', 8, 9))) {
			t.Errorf("another Feed tells %v and %v", other, again)
		}
	}
	var p esc.Parser
	p.Feed([]byte("\x1b[1;2"))
	first := p.Feed([]byte(";3H"))
	p.Feed([]byte("\x1b[7;8;9;10H\x1b]long text\x07"))
	if !sameActs(first, acts(csi('H', 1, 2, 3))) {
		t.Errorf("an answer has become %v", first)
	}
}

func TestP4_4_ParsersShareNothing(t *testing.T) {
	var p, q esc.Parser
	p.Feed([]byte("\x1b]one\xe4"))
	q.Feed([]byte("\x1b[1;2"))
	if q.Idle() || p.Idle() {
		t.Error("what is begun is begun")
	}
	if got := q.Feed([]byte(";3H")); !sameActs(got, acts(csi('H', 1, 2, 3))) {
		t.Errorf("the one says %v", got)
	}
	if got := p.Feed([]byte("\x07")); !sameActs(got, acts(str(']', "one\xe4"))) {
		t.Errorf("the other says %v", got)
	}
}
