package keys_test

import (
	"slices"
	"strconv"
	"strings"
	"testing"

	"casement/api"
	"casement/keys"
)

// presses holds Press to what is told.
func presses(t *testing.T, x *keys.Board, k api.Key, does string, told ...api.Key) {
	t.Helper()
	if got, list := x.Press(k); got != does || !slices.Equal(list, told) {
		t.Errorf("Press(%v) = %q, %v, not %q, %v", k, got, list, does, told)
	}
}

// waiting holds Waits to keys.
func waiting(t *testing.T, x *keys.Board, want ...api.Key) {
	t.Helper()
	if got := x.Waits(); !slices.Equal(got, want) {
		t.Errorf("Waits() = %v, not %v", got, want)
	}
}

// binds holds Bind to an error's number.
func binds(t *testing.T, x *keys.Board, mode string, seq []api.Key, does string, want api.Errno) {
	t.Helper()
	before := x.All(mode)
	if code := x.Bind(mode, seq, does); code != want {
		t.Errorf("Bind(%q, %v, %q) = %d, not %d", mode, seq, does, code, want)
	}
	if got := x.All(mode); want != 0 && !slices.Equal(got, before) {
		t.Errorf("Bind(%q, %v, %q), refused, makes %q of %q", mode, seq, does, got, before)
	}
}

func TestP18_1_Examples(t *testing.T) {
	reads(t, "\x01\x1bx\r", []api.Key{key('a', 1), key('x', 2), key(13, 0)})
	x := keys.New()
	binds(t, x, "n", parsed("Ctrl-b x"), "close", 0)
	x.Mode("n")
	b, q := key('b', 1), key('q', 0)
	presses(t, x, b, "")
	waiting(t, x, b)
	presses(t, x, key('x', 0), "close")
	waiting(t, x)
	presses(t, x, b, "")
	presses(t, x, q, "", b, q)
	waiting(t, x)
}

func TestP18_1_NewBoard(t *testing.T) {
	x := keys.New()
	waiting(t, x)
	for _, mode := range modes() {
		if list := x.All(mode); len(list) != 0 {
			t.Errorf("of a new board All(%q) = %q", mode, list)
		}
	}
	for _, k := range append(wrongKeys(), few()...) {
		presses(t, x, k, "", k)
		waiting(t, x)
	}
	binds(t, x, "m", parsed("a"), "does", 0)
	presses(t, x, key('a', 0), "", key('a', 0)) // the mode is "" still
	x.Mode("m")
	presses(t, x, key('a', 0), "does")
	x.Mode("")
	presses(t, x, key('a', 0), "", key('a', 0))
}

func TestP18_1_BindArguments(t *testing.T) {
	x := keys.New()
	x.Bind("m", parsed("z z"), "there")
	right, long := parsed("a b"), strings.Repeat("x", 33)
	for _, s := range []string{"", long, strings.Repeat("é", 17), strings.Repeat("x", 1<<20)} {
		binds(t, x, s, right, "does", 1)
		binds(t, x, "m", right, s, 1)
		binds(t, x, s, nil, s, 1)
	}
	for _, seq := range [][]api.Key{nil, {}, parsed("a b c d e"), slices.Repeat(parsed("a"), 1<<16)} {
		binds(t, x, "m", seq, "does", 1)
	}
	for _, k := range wrongKeys() {
		for at := range 4 {
			seq := parsed("a b c d")
			seq[at] = k
			binds(t, x, "m", seq, "does", 1)
			binds(t, x, "m", seq[at:at+1], "does", 1)
		}
	}
	// Of two errors it is the one that is named first.
	for _, seq := range [][]api.Key{parsed("z"), parsed("z z a"), parsed("z z z z z"), parsed("z z")} {
		binds(t, x, "m", seq, "", 1)
		binds(t, x, "m", seq, long, 1)
	}
	binds(t, x, "m", append(parsed("z z"), key('i', 1)), "does", 1)
	for _, s := range []string{"s", long[:32], strings.Repeat("é", 16), "\x00", "\xff", " "} {
		binds(t, x, s, right, s, 0)
		if got := x.All(s); !slices.Equal(got, []string{s}) {
			t.Errorf("All(%q) = %q", s, got)
		}
	}
	for n, s := range []string{"q", "w e", "r t y", "u i o p", "Esc Esc Esc Esc", "Alt-Esc", "Ctrl-Alt-a Space", "\u0080 \ufffd"} {
		binds(t, x, "n", parsed(s), strconv.Itoa(n), 0)
	}
}

func TestP18_1_BeginningsOfOthers(t *testing.T) {
	x := keys.New()
	binds(t, x, "m", parsed("a b c"), "one", 0)
	for _, s := range []string{"a", "a b", "a b c d", "a b c a"} {
		binds(t, x, "m", parsed(s), "does", 180)
	}
	for _, s := range []string{"b", "a c", "a b d", "a b Alt-c", "a b Ctrl-c c", "c b a", "A", "Alt-a b c", "a Alt-b"} {
		binds(t, x, "m", parsed(s), s, 0)
	}
	binds(t, x, "n", parsed("a"), "of another mode", 0)
	binds(t, x, "n", parsed("a b c"), "does", 180)
	binds(t, x, "m", parsed("a b c"), "two", 0)
	if got := x.All("m"); len(got) != 10 || !slices.Contains(got, "two") || slices.Contains(got, "one") {
		t.Errorf("All(m) = %q", got)
	}
	if got := x.All("n"); !slices.Equal(got, []string{"of another mode"}) {
		t.Errorf("All(n) = %q", got)
	}
}

func TestP18_1_AsManyBindingsAsMayBe(t *testing.T) {
	x := keys.New()
	for n := range 64 {
		binds(t, x, []string{"m", "n", "base"}[n%3], []api.Key{key(rune('0'+n), 0), key('x', 0)}, strconv.Itoa(n), 0)
	}
	for _, mode := range []string{"m", "n", "base", "other"} {
		binds(t, x, mode, parsed("é"), "does", 3)
	}
	if len(x.All("m"))+len(x.All("n"))+len(x.All("base")) != 64 || len(x.All("other")) != 0 {
		t.Errorf("All: %q, %q, %q, %q", x.All("m"), x.All("n"), x.All("base"), x.All("other"))
	}
	// Of two errors it is the one that is named first.
	binds(t, x, "m", parsed("0"), "does", 180)
	binds(t, x, "m", parsed("0 x x"), "does", 180)
	binds(t, x, "m", nil, "does", 1)
	binds(t, x, "", parsed("é"), "does", 1)
	// What is replaced is none more.
	binds(t, x, "m", parsed("0 x"), "again", 0)
	if got := x.All("m"); len(got) != 22 || got[0] != "again" {
		t.Errorf("All(m) = %q", got)
	}
	x.Mode("m")
	presses(t, x, key('0', 0), "")
	presses(t, x, key('x', 0), "again")
	binds(t, x, "n", parsed("0 x"), "does", 3) // the same list, of another mode
}

func TestP18_1_Mode(t *testing.T) {
	x := keys.New()
	a, b := key('a', 0), key('b', 0)
	x.Bind("m", []api.Key{a, b}, "of m")
	x.Bind("n", []api.Key{b}, "of n")
	for _, mode := range []string{"m", "n", "", "M", "m ", "other", strings.Repeat("m", 1<<20)} {
		x.Mode("m")
		presses(t, x, a, "")
		waiting(t, x, a)
		x.Mode(mode) // forgets what waits, also where the mode is the same
		waiting(t, x)
		if mode == "n" {
			presses(t, x, b, "of n")
		} else {
			presses(t, x, b, "", b)
		}
		waiting(t, x)
	}
}

func TestP18_1_Press(t *testing.T) {
	x := keys.New()
	a, b, c := key('a', 0), key('b', 0), key('c', 0)
	x.Bind("m", []api.Key{a, b, c, a}, "long")
	x.Bind("m", []api.Key{a, c}, "short")
	x.Bind("m", []api.Key{c}, "one")
	x.Mode("m")
	presses(t, x, c, "one")
	presses(t, x, b, "", b)
	presses(t, x, a, "")
	presses(t, x, a, "", a, a) // what is told doesn't wait anew
	waiting(t, x)
	presses(t, x, a, "")
	presses(t, x, c, "short")
	presses(t, x, a, "")
	presses(t, x, b, "")
	waiting(t, x, a, b)
	presses(t, x, c, "")
	waiting(t, x, a, b, c)
	presses(t, x, a, "long")
	waiting(t, x)
	for _, k := range append(wrongKeys(), key('a', 2), key('a', 1), key('A', 0)) {
		presses(t, x, k, "", k)
		presses(t, x, a, "")
		presses(t, x, b, "")
		presses(t, x, k, "", a, b, k)
		waiting(t, x)
	}
}

func TestP18_1_BindWhileKeysWait(t *testing.T) {
	x := keys.New()
	a, b, c := key('a', 0), key('b', 0), key('c', 0)
	x.Bind("m", []api.Key{a, b}, "one")
	x.Mode("m")
	presses(t, x, a, "")
	binds(t, x, "m", []api.Key{a, c}, "two", 0)
	binds(t, x, "m", []api.Key{a, b}, "three", 0)
	binds(t, x, "m", []api.Key{a}, "four", 180)
	waiting(t, x, a)
	presses(t, x, c, "two")
	presses(t, x, a, "")
	presses(t, x, b, "three")
}

func TestP18_1_AllInOrder(t *testing.T) {
	names := []string{"Tab", "Enter", "Esc a", "Esc Alt-a", "Alt-Esc", "Space x", "Ctrl-Space", "A", "Ctrl-_", "a a a", "a a b a", "a a Ctrl-b", "a b", "a Ctrl-b", "a Alt-b", "a Ctrl-Alt-b", "a é", "Ctrl-a", "Alt-a", "Ctrl-Alt-a Tab", "Ctrl-Alt-a Alt-Tab", "b", "Alt-b", "Back", "é a", "é b", "\U0010ffff"}
	for turn := range len(names) {
		x := keys.New()
		for n := range names {
			name := names[(n*5+turn)%len(names)]
			binds(t, x, "m", parsed(name), name, 0)
			binds(t, x, "n", parsed(name), "n", 0)
		}
		if got := x.All("m"); !slices.Equal(got, names) {
			t.Fatalf("All(m) = %q, not %q", got, names)
		}
	}
}
