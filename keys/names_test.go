package keys_test

import (
	"math/rand"
	"slices"
	"strings"
	"testing"
	"unsafe"

	"casement/api"
	"casement/keys"
)

func TestP18_1_ParseRight(t *testing.T) {
	for _, x := range []struct {
		s    string
		want []api.Key
	}{
		{"", nil}, {" ", nil}, {"     ", nil},
		{"a", []api.Key{key('a', 0)}}, {" a", []api.Key{key('a', 0)}}, {"a ", []api.Key{key('a', 0)}}, {"   a   b  ", []api.Key{key('a', 0), key('b', 0)}},
		{"Ctrl-a Alt-x Enter", []api.Key{key('a', 1), key('x', 2), key(13, 0)}},
		{"Tab Enter Esc Back Space", []api.Key{key(9, 0), key(13, 0), key(27, 0), key(127, 0), key(' ', 0)}},
		{"Alt-Tab Alt-Enter Alt-Esc Alt-Back Alt-Space", []api.Key{key(9, 2), key(13, 2), key(27, 2), key(127, 2), key(' ', 2)}},
		{"Ctrl-Space Ctrl-Alt-Space Ctrl-Alt-z Ctrl-\\ Ctrl-] Ctrl-^ Ctrl-Alt-_", []api.Key{key(' ', 1), key(' ', 3), key('z', 3), key('\\', 1), key(']', 1), key('^', 1), key('_', 3)}},
		{"- Alt-- T E C A", []api.Key{key('-', 0), key('-', 2), key('T', 0), key('E', 0), key('C', 0), key('A', 0)}},
		{"i m Alt-i Alt-m", []api.Key{key('i', 0), key('m', 0), key('i', 2), key('m', 2)}},
		{"é 中 Alt-\U0010ffff \ufffd \u00a0 \u0085", []api.Key{key('é', 0), key('中', 0), key(0x10ffff, 2), key(0xfffd, 0), key(0xa0, 0), key(0x85, 0)}},
		{"a a a a a a", slices.Repeat([]api.Key{key('a', 0)}, 6)},
	} {
		if got, code := keys.Parse(x.s); code != 0 || !slices.Equal(got, x.want) {
			t.Errorf("Parse(%q) = %v, %d, not %v", x.s, got, code, x.want)
		}
	}
}

// wrongNames name no key.
func wrongNames() []string {
	return []string{
		"ab", "aé", "éa", "aa", "--", "Ctrl", "Alt", "Ctrl-", "Alt-", "Ctrl-Alt-", "Ctrl-Alt", "Ctrl--", "Ctrl-Alt--", "-Ctrl", "Ctrl-ab", "Alt-ab", "Alt-Ctrl-b", "Alt-Alt-a", "Ctrl-Ctrl-a", "Alt-Ctrl-Alt-a",
		"Ctrl-i", "Ctrl-m", "Ctrl-Alt-i", "Ctrl-Alt-m", "Ctrl-A", "Ctrl-Z", "Ctrl-1", "Ctrl-[", "Ctrl-@", "Ctrl-`", "Ctrl-~", "Ctrl-é", "Ctrl-Tab", "Ctrl-Enter", "Ctrl-Esc", "Ctrl-Back", "Ctrl-Alt-Tab",
		"ctrl-a", "CTRL-a", "alt-a", "ALT-a", "Ctrl+a", "C-a", "tab", "TAB", "space", "SPACE", "enter", "Return", "esc", "Escape", "back", "Backspace", "Tabs", "Spac", "SpaceSpace", "TabEnter",
		"\x00", "\x01", "\t", "\n", "\r", "\x1b", "\x1f", "\x7f", "Alt-\t", "Alt-\x7f", "Alt-\x1b", "a\t", "\ta", "a\tb", "a\nb", "a\x00",
		"\xff", "\x80", "\xc3", "\xa9", "\xe4\xb8", "\xed\xa0\x80", "\xf4\x90\x80\x80", "\xc0\x80", "Alt-\xff", "Ctrl-\xff", "é\xff", "\xffé", "\ufffd\xff", "\xff\ufffd",
		"Alt-\ufffd\ufffd", "Ctrl-Alt-\ufffd", "Alt-Alt-", "Ctrl-Ctrl-", "\u2028a", "e\u0301",
	}
}

func TestP18_1_ParseWrong(t *testing.T) {
	for _, name := range wrongNames() {
		for _, s := range []string{name, " " + name, name + " ", "a " + name, name + " Tab", "Ctrl-a  " + name + "  Ctrl-b"} {
			if got, code := keys.Parse(s); code != 180 || len(got) != 0 {
				t.Errorf("Parse(%q) = %v, %d", s, got, code)
			}
		}
	}
	// What parts names are blanks alone.
	for _, between := range []string{"\t", "\n", "\r\n", ",", "\u00a0", "\u2003", "\x00", "-", ""} {
		if got, code := keys.Parse("Ctrl-a" + between + "Ctrl-b"); code != 180 || len(got) != 0 {
			t.Errorf("Parse of names with %q between = %v, %d", between, got, code)
		}
	}
}

func TestP18_1_ParseLongTexts(t *testing.T) {
	blanks := strings.Repeat(" ", 1<<20)
	if got, code := keys.Parse(blanks); code != 0 || len(got) != 0 {
		t.Errorf("Parse of blanks = %v, %d", got, code)
	}
	if got, code := keys.Parse(blanks + "x" + blanks + "y" + blanks); code != 0 || !slices.Equal(got, []api.Key{key('x', 0), key('y', 0)}) {
		t.Errorf("Parse of names among blanks = %v, %d", got, code)
	}
	for _, s := range []string{strings.Repeat("x", 1<<20), strings.Repeat("Ctrl-", 1<<18), strings.Repeat("Alt-", 1<<18), "Ctrl-Alt-" + strings.Repeat("\xff", 1<<20), strings.Repeat("x ", 1<<18) + "xy"} {
		if got, code := keys.Parse(s); code != 180 || len(got) != 0 {
			t.Errorf("Parse of %d bytes = %d keys, %d", len(s), len(got), code)
		}
	}
	if got, code := keys.Parse(strings.Repeat("Ctrl-Space ", 1<<17)); code != 0 || !slices.Equal(got, slices.Repeat([]api.Key{key(' ', 1)}, 1<<17)) {
		t.Errorf("Parse of many names = %d keys, %d", len(got), code)
	}
}

func TestP18_1_ParseRandom(t *testing.T) {
	rnd := rand.New(rand.NewSource(181))
	known := ascii()
	pieces := []string{" ", "  ", "Ctrl-", "Ctrl-", "Alt-", "Alt-", "Tab", "Enter", "Esc", "Back", "Space", "a", "b", "i", "m", "z", "A", "_", "]", "-", "é", "中", "\ufffd", "\xff", "\xc3", "\t", "\x1b", "\x7f", "\u0080"}
	right := 0
	for range 200000 {
		s := ""
		for range rnd.Intn(8) {
			s += pick(rnd, pieces...) + pick(rnd, "", " ")
		}
		want, wants := parse(s, known)
		got, code := keys.Parse(s)
		if code != wants || !slices.Equal(got, want) {
			t.Fatalf("Parse(%q) = %v, %d, not %v, %d", s, got, code, want, wants)
		}
		if code == 0 && len(got) > 1 {
			right++
		}
	}
	if right < 5000 {
		t.Errorf("%d texts name two keys or more", right)
	}
}

func TestP18_2_EveryNameIsParsed(t *testing.T) {
	seen := map[string]api.Key{}
	for r := rune(0); r <= 0x10ffff; r++ {
		for mods := range 4 {
			k := key(r, mods)
			if !keys.Right(k) {
				continue
			}
			name := keys.Name(k)
			if got, code := keys.Parse(name); code != 0 || len(got) != 1 || got[0] != k {
				t.Fatalf("the name %q of %v is parsed as %v, %d", name, k, got, code)
			}
			if r < 500 {
				if other, there := seen[name]; there {
					t.Fatalf("%v and %v are both called %q", other, k, name)
				}
				seen[name] = k
			}
		}
	}
}

func TestP18_2_ManyNamesAreParsed(t *testing.T) {
	rnd := rand.New(rand.NewSource(22))
	for range 20000 {
		var list []api.Key
		s := strings.Repeat(" ", rnd.Intn(3))
		for range rnd.Intn(9) {
			k := someKey(rnd)
			list = append(list, k)
			s += keys.Name(k) + strings.Repeat(" ", 1+rnd.Intn(3))
		}
		s = s[:len(s)-min(len(s), rnd.Intn(2))] // perhaps with no blank at the end
		if got, code := keys.Parse(s); code != 0 || !slices.Equal(got, list) {
			t.Fatalf("Parse(%q) = %v, %d, not %v", s, got, code, list)
		}
	}
}

func TestP18_4_NamesAreNewMemory(t *testing.T) {
	text := "Ctrl-a é  Alt-Tab q "
	want := []api.Key{key('a', 1), key('é', 0), key(9, 2), key('q', 0)}
	own := []byte(text)
	s := unsafe.String(&own[0], len(own)) // the caller's room, which it may write over
	first, _ := keys.Parse(s)
	second, _ := keys.Parse(s)
	spoil(first, key('x', 9))
	spoil(own, '?')
	third, _ := keys.Parse(text)
	if !slices.Equal(second, want) || !slices.Equal(third, want) {
		t.Errorf("keys that were written over: another time %v, %v", second, third)
	}
	names := keys.Name(key('é', 2))
	spoil(keys.Bytes(key('é', 2)), '?')
	if names != "Alt-é" || keys.Name(key('é', 2)) != "Alt-é" {
		t.Errorf("a name has become %q", names)
	}
}
