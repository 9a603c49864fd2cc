package tok_test

import (
	"math"
	"slices"
	"strings"
	"testing"
	"unsafe"

	"casement/api"
	"casement/tok"
)

func word(at int, text string) api.Token  { return api.Token{Kind: 1, Text: text, At: at} }
func quote(at int, text string) api.Token { return api.Token{Kind: 2, Text: text, At: at} }
func sign(at int, text string) api.Token  { return api.Token{Kind: 4, Text: text, At: at} }
func stop(at int, text string) api.Token  { return api.Token{Kind: 5, Text: text, At: at} }

func integer(at int, text string, n int64) api.Token {
	return api.Token{Kind: 3, Text: text, Int: n, At: at}
}

func TestP7_1_TokensTable(t *testing.T) {
	for _, x := range []struct {
		text   string
		tokens []api.Token
	}{
		{"", nil},
		{" \t\r", nil},
		{"// all", nil},
		{"//", nil},
		{"/**/", nil},
		{"/* a \n \x00\x7f\xff \" { 1x */", nil},
		{"/***/", nil},
		{"/*/*/", nil},
		{"/* // */", nil},
		{"// /* \x00 \"", nil},
		{"// a\nb", []api.Token{stop(4, "\n"), word(5, "b")}},
		{"// a\r\nb", []api.Token{stop(5, "\n"), word(6, "b")}},
		{"//;\n;", []api.Token{stop(3, "\n"), stop(4, ";")}},
		{"pane size=-3 {;", []api.Token{word(0, "pane"), word(5, "size"), sign(9, "="), integer(10, "-3", -3), sign(13, "{"), stop(14, ";")}},
		{"{}=;\n", []api.Token{sign(0, "{"), sign(1, "}"), sign(2, "="), stop(3, ";"), stop(4, "\n")}},
		{"a//b", []api.Token{word(0, "a")}},
		{"a/**/b", []api.Token{word(0, "a"), word(5, "b")}},
		{"a/* */b//\nc", []api.Token{word(0, "a"), word(6, "b"), stop(9, "\n"), word(10, "c")}},
		{"1/**/2", []api.Token{integer(0, "1", 1), integer(5, "2", 2)}},
		{"1 2", []api.Token{integer(0, "1", 1), integer(2, "2", 2)}},
		{"1{2}3=4;5\n6", []api.Token{integer(0, "1", 1), sign(1, "{"), integer(2, "2", 2), sign(3, "}"), integer(4, "3", 3), sign(5, "="), integer(6, "4", 4), stop(7, ";"), integer(8, "5", 5), stop(9, "\n"), integer(10, "6", 6)}},
		{"1\"a\"", []api.Token{integer(0, "1", 1), quote(1, "a")}},
		{"\"a\"1", []api.Token{quote(0, "a"), integer(3, "1", 1)}},
		{"\"a\"b", []api.Token{quote(0, "a"), word(3, "b")}},
		{"b\"a\"\"\"", []api.Token{word(0, "b"), quote(1, "a"), quote(4, "")}},
		{"0 00 007 -0 -007", []api.Token{integer(0, "0", 0), integer(2, "00", 0), integer(5, "007", 7), integer(9, "-0", 0), integer(12, "-007", -7)}},
		{"9223372036854775807", []api.Token{integer(0, "9223372036854775807", math.MaxInt64)}},
		{"-9223372036854775808", []api.Token{integer(0, "-9223372036854775808", math.MinInt64)}},
		{"000000000000000000000000000001", []api.Token{integer(0, "000000000000000000000000000001", 1)}},
		{"- -- -a -- 5 --5 -_1", []api.Token{word(0, "-"), word(2, "--"), word(5, "-a"), word(8, "--"), integer(11, "5", 5), word(13, "--5"), word(17, "-_1")}},
		{"a-5 a1 .5 _ : -.:_ Z9z0A", []api.Token{word(0, "a-5"), word(4, "a1"), word(7, ".5"), word(10, "_"), word(12, ":"), word(14, "-.:_"), word(19, "Z9z0A")}},
		{"true false null", []api.Token{word(0, "true"), word(5, "false"), word(11, "null")}},
		{"\"\"", []api.Token{quote(0, "")}},
		{"\"a b\"", []api.Token{quote(0, "a b")}},
		{"\"a\\n\"", []api.Token{quote(0, "a\n")}},
		{"\"\\\"\\\\\\n\\t\"", []api.Token{quote(0, "\"\\\n\t")}},
		{"\"\\\\n\"", []api.Token{quote(0, "\\n")}},
		{"\"\\\\\" \"\\\\\"", []api.Token{quote(0, "\\"), quote(5, "\\")}},
		{"\"// /* */ {;=}\"", []api.Token{quote(0, "// /* */ {;=}")}},
		{"\"1x #'~\"", []api.Token{quote(0, "1x #'~")}},
		{"\"\u00e9\u4e2d\x80\xff\xe4\xb8\"", []api.Token{quote(0, "\u00e9\u4e2d\x80\xff\xe4\xb8")}},
	} {
		got, fault := tok.Tokens(x.text)
		if !slices.Equal(got, x.tokens) || fault != (api.Fault{}) {
			t.Errorf("Tokens(%q) = %v, %v, not %v", x.text, got, fault, x.tokens)
		}
		answers(t, x.text)
	}
}

func TestP7_1_FaultsTable(t *testing.T) {
	for _, x := range []struct {
		text string
		code api.Errno
		at   int
	}{
		{"#", 70, 0},
		{"a #", 70, 2},
		{"a\x00", 70, 1},
		{"a \x7f", 70, 2},
		{"\x80", 70, 0},
		{"\u00e9", 70, 0},
		{"a\u00e9", 70, 1},
		{"1\u00e9", 70, 1},
		{"\x0b", 70, 0},
		{"\x0c", 70, 0},
		{"/", 70, 0},
		{"a /", 70, 2},
		{"a / /", 70, 2},
		{"*/", 70, 0},
		{"/* a */ */", 70, 8},
		{"\\n", 70, 0},
		{"'a'", 70, 0},
		{"+1", 70, 0},
		{"\"a\nb\"", 70, 2},
		{"\"a\tb\"", 70, 2},
		{"\"\r\"", 70, 1},
		{"x \"\x00\"", 70, 3},
		{"\"ab\x7f\"", 70, 3},
		{"\"a\x1f\\x\"", 70, 2},
		{"\"", 71, 0},
		{"x \"a", 71, 2},
		{"\"a\" \"", 71, 4},
		{"\"a\\", 71, 0},
		{"\"a\\\"", 71, 0},
		{"\"a\\\\\\\"", 71, 0},
		{"\"\"\"", 71, 2},
		{"a\n \"b\nc #", 71, 3},
		{"\"a\nb", 71, 0},
		{"\"a\\xb", 71, 0},
		{"\"a\x7f\\", 71, 0},
		{"/*", 71, 0},
		{"/* ", 71, 0},
		{"/*/", 71, 0},
		{"a/* *", 71, 1},
		{"/**/ /* // \n", 71, 5},
		{"\"\\x\"", 72, 1},
		{"\"\\N\"", 72, 1},
		{"\"\\r\"", 72, 1},
		{"\"\\0\"", 72, 1},
		{"\"ab\\ \"", 72, 3},
		{"\"\\\n\"", 72, 1},
		{"\"\\\x00\"", 72, 1},
		{"\"\\\xff\"", 72, 1},
		{"\"\\\\\\a\"", 72, 3},
		{"\"\\x\n\"", 72, 1},
		{"\"\\x\" #", 72, 1},
		{"1x", 73, 0},
		{"a 1_", 73, 2},
		{"1.5", 73, 0},
		{"1:", 73, 0},
		{"1-", 73, 0},
		{"1-2", 73, 0},
		{"-1-", 73, 0},
		{"-1a", 73, 0},
		{"1x#", 73, 0},
		{"# 1x", 70, 0},
		{"9223372036854775808", 73, 0},
		{" -9223372036854775809", 73, 1},
		{"99999999999999999999999999 #", 73, 0},
		{"9223372036854775808x", 73, 0},
	} {
		got, fault := tok.Tokens(x.text)
		if len(got) != 0 || fault != (api.Fault{Code: x.code, At: x.at}) {
			t.Errorf("Tokens(%q) = %v, %v, not %d at %d", x.text, got, fault, x.code, x.at)
		}
		answers(t, x.text)
	}
}

func TestP7_1_Numbers(t *testing.T) {
	for _, x := range []struct{ got, want int }{
		{api.Word, 1}, {api.Quote, 2}, {api.Int, 3}, {api.Sign, 4}, {api.Break, 5}, {api.MaxText, 4096},
		{int(api.ErrSign), 70}, {int(api.ErrOpen), 71}, {int(api.ErrEscape), 72}, {int(api.ErrInt), 73}, {int(api.ErrLong), 2},
	} {
		if x.got != x.want {
			t.Errorf("%d, not %d", x.got, x.want)
		}
	}
}

func TestP7_1_LongTexts(t *testing.T) {
	for _, part := range []string{" ", "a", "1", "a ", "\"", "\"a\"", "/*", "//", "#", "{", ";", "\n", "\\", "\x00", "\xff"} {
		for _, n := range []int{4095, 4096, 4097, 4098, 20000} {
			answers(t, strings.Repeat(part, n/len(part)+1)[:n])
		}
	}
	if got, fault := tok.Tokens("#" + strings.Repeat(" ", 4096)); len(got) != 0 || fault != (api.Fault{Code: 2}) {
		t.Errorf("a byte too many: %v, %v", got, fault)
	}
	if got, fault := tok.Tokens("\"" + strings.Repeat("a", 4094) + "\""); len(got) != 1 || len(got[0].Text) != 4094 || fault != (api.Fault{}) {
		t.Errorf("the longest Quote: %v, %v", got, fault)
	}
	if got, fault := tok.Tokens(strings.Repeat("x", 1<<26)); len(got) != 0 || fault != (api.Fault{Code: 2}) {
		t.Errorf("very many bytes: %v, %v", got, fault)
	}
}

func TestP7_1_PlainTable(t *testing.T) {
	for s, is := range map[string]bool{
		"pane": true, "-": true, "--": true, "a1": true, "-a": true, "--5": true, ".": true, ".5": true, ":": true, "_": true, "true": true, "null": true, "A-Z.9:_": true,
		"": false, "1": false, "-1": false, "1a": false, "-1a": false, "a b": false, " a": false, "a ": false, "a\n": false, "\na": false, "a;": false, ";": false, "a=": false, "=": false, "{": false,
		"\"a\"": false, "a\"": false, "a//": false, "//a": false, "a/**/": false, "/**/a": false, "\u00e9": false, "a\u00e9": false, "a\x00": false, "a\x7f": false, "a#": false,
		strings.Repeat("a", 4096): true, strings.Repeat("a", 4097): false, strings.Repeat("a", 1<<22): false,
	} {
		if tok.Plain(s) != is {
			t.Errorf("Plain(%.50q) = %v", s, !is)
		}
	}
}

func TestP7_1_AllPairsOfBytes(t *testing.T) {
	answers(t, "")
	for a := range 256 {
		answers(t, string([]byte{byte(a)}))
		for b := range 256 {
			answers(t, string([]byte{byte(a), byte(b)}))
		}
	}
}

func TestP7_1_AllBytesWhereTheyMatter(t *testing.T) {
	for _, x := range [][2]string{{"a", "b"}, {"1", ""}, {"-", "1"}, {"\"", "\""}, {"\"a", "b\" c"}, {"\"\\", "\""}, {"\"\\", "x\""}, {"\"\\\\", "\""}, {"\"", ""}, {"\"\\", ""}, {"/", "a"}, {"/*", "*/"}, {"/*a*", "/b"}, {"//", "\nb"}, {"//", ""}, {"a ", " b"}, {"{ ", "}"}} {
		for c := range 256 {
			answers(t, x[0]+string([]byte{byte(c)})+x[1])
		}
	}
}

// alphabet has the bytes at which something changes.
const alphabet = "\"\\/*\na1- ;=n#\x00\xff"

func TestP7_1_AllShortTexts(t *testing.T) {
	texts := []string{""}
	for range 4 {
		var longer []string
		for _, s := range texts {
			for i := range len(alphabet) {
				longer = append(longer, s+alphabet[i:i+1])
			}
		}
		for _, s := range longer {
			answers(t, s)
		}
		texts = longer
	}
}

// written is a text whose memory is b's.
func written(b []byte) string { return unsafe.String(unsafe.SliceData(b), len(b)) }

func TestP7_1_AnswersAreNewMemory(t *testing.T) {
	const text = "pane size=-3 {; \"a\\n\" \"plain\" }\n"
	b := []byte(text)
	got, fault := tok.Tokens(written(b))
	if string(b) != text {
		t.Errorf("Tokens leaves %q", b)
	}
	for i := range b {
		b[i] = 'Z'
	}
	want, _, _ := modelTokens(text)
	if !slices.Equal(got, want) || fault != (api.Fault{}) {
		t.Errorf("behind a text that was written over: %v", got)
	}
	one, _ := tok.Tokens(text)
	for i := range one[:cap(one)] {
		one[:cap(one)][i] = api.Token{Kind: 9}
	}
	if two, _ := tok.Tokens(text); !slices.Equal(two, want) {
		t.Errorf("behind an answer that was written over: %v", two)
	}
}
