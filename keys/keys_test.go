package keys_test

import (
	"bytes"
	"math/rand"
	"slices"
	"strings"
	"testing"

	"casement/api"
	"casement/keys"
)

func TestP18_1_Numbers(t *testing.T) {
	if keys.Ctrl != 1 || keys.Alt != 2 {
		t.Errorf("Ctrl is %d, Alt %d", keys.Ctrl, keys.Alt)
	}
}

// like holds a key to the model.
func like(t *testing.T, k api.Key) {
	t.Helper()
	name, b := model(k)
	if got := keys.Name(k); got != name {
		t.Fatalf("Name(%v) = %q, not %q", k, got, name)
	}
	if got := keys.Bytes(k); string(got) != b {
		t.Fatalf("Bytes(%v) = %q, not %q", k, got, b)
	}
	if got := keys.Right(k); got != (name != "") {
		t.Fatalf("Right(%v) = %v: its name is %q", k, got, name)
	}
}

func TestP18_1_SomeKeys(t *testing.T) {
	for _, x := range []struct {
		k           api.Key
		name, bytes string
	}{
		{key('a', 0), "a", "a"}, {key('a', 2), "Alt-a", "\x1ba"}, {key('a', 1), "Ctrl-a", "\x01"}, {key('a', 3), "Ctrl-Alt-a", "\x1b\x01"},
		{key('z', 1), "Ctrl-z", "\x1a"}, {key('h', 1), "Ctrl-h", "\x08"}, {key('j', 1), "Ctrl-j", "\n"}, {key('l', 3), "Ctrl-Alt-l", "\x1b\x0c"}, {key('n', 1), "Ctrl-n", "\x0e"},
		{key(' ', 0), "Space", " "}, {key(' ', 2), "Alt-Space", "\x1b "}, {key(' ', 1), "Ctrl-Space", "\x00"}, {key(' ', 3), "Ctrl-Alt-Space", "\x1b\x00"},
		{key('\\', 1), "Ctrl-\\", "\x1c"}, {key(']', 1), "Ctrl-]", "\x1d"}, {key('^', 1), "Ctrl-^", "\x1e"}, {key('_', 3), "Ctrl-Alt-_", "\x1b\x1f"},
		{key(9, 0), "Tab", "\t"}, {key(13, 2), "Alt-Enter", "\x1b\r"}, {key(27, 0), "Esc", "\x1b"}, {key(27, 2), "Alt-Esc", "\x1b\x1b"}, {key(127, 0), "Back", "\x7f"}, {key(127, 2), "Alt-Back", "\x1b\x7f"},
		{key('i', 0), "i", "i"}, {key('m', 2), "Alt-m", "\x1bm"}, {key('-', 0), "-", "-"}, {key('-', 2), "Alt--", "\x1b-"}, {key('~', 0), "~", "~"}, {key('!', 0), "!", "!"}, {key('[', 2), "Alt-[", "\x1b["},
		{key(128, 0), "\u0080", "\xc2\x80"}, {key(0xfffd, 2), "Alt-\ufffd", "\x1b\xef\xbf\xbd"}, {key(0x301, 0), "\u0301", "\xcc\x81"}, {key(0x10ffff, 0), "\U0010ffff", "\xf4\x8f\xbf\xbf"}, {key(0xd7ff, 0), "\ud7ff", "\xed\x9f\xbf"}, {key(0xe000, 0), "\ue000", "\xee\x80\x80"},
	} {
		if name, b := keys.Name(x.k), keys.Bytes(x.k); name != x.name || string(b) != x.bytes || !keys.Right(x.k) {
			t.Errorf("%v: %q, %q, not %q, %q", x.k, name, b, x.name, x.bytes)
		}
		like(t, x.k)
	}
	for _, k := range wrongKeys() {
		if name, b := keys.Name(k), keys.Bytes(k); name != "" || len(b) != 0 || keys.Right(k) {
			t.Errorf("%v, which isn't right: %q, %q", k, name, b)
		}
		like(t, k)
	}
}

func TestP18_1_EveryKey(t *testing.T) {
	for r := rune(-300); r < 0x110000+300; r++ {
		for mods := -1; mods <= 4; mods++ {
			if r < 400 || mods == 0 || r%64 == rune(mods) {
				like(t, key(r, mods))
			}
		}
	}
	for _, r := range oddRunes() {
		for _, mods := range oddMods() {
			like(t, key(r, mods))
		}
	}
}

// reads holds Read to keys.
func reads(t *testing.T, b string, want []api.Key) {
	t.Helper()
	if got := keys.Read([]byte(b)); !slices.Equal(got, want) {
		t.Fatalf("Read(%q) = %v, not %v", b, got, want)
	}
}

func TestP18_1_Read(t *testing.T) {
	escape := key(27, 0)
	for _, x := range []struct {
		b    string
		want []api.Key
	}{
		{"\x01\x1bx\r", []api.Key{key('a', 1), key('x', 2), key(13, 0)}},
		{"", nil},
		{"\x1b", []api.Key{escape}},
		{"\x1b\x1b", []api.Key{escape, escape}},
		{"\x1b\x1b\x1b", []api.Key{escape, escape, escape}},
		{"\x1b\x1bx", []api.Key{escape, key('x', 2)}},
		{"\x1bx\x1b", []api.Key{key('x', 2), escape}},
		{"\x1bxy", []api.Key{key('x', 2), key('y', 0)}},
		{"\x1b\x00\x00", []api.Key{key(' ', 3), key(' ', 1)}},
		{"\x1b\x1a", []api.Key{key('z', 3)}},
		{"\x1b\x1c\x1c\x1f", []api.Key{key('\\', 3), key('\\', 1), key('_', 1)}},
		{"\t\x1b\t\x1b\r\x1b\x7f\x7f", []api.Key{key(9, 0), key(9, 2), key(13, 2), key(127, 2), key(127, 0)}},
		{" \x1b ", []api.Key{key(' ', 0), key(' ', 2)}},
		{"é\x1bé中", []api.Key{key('é', 0), key('é', 2), key('中', 0)}},
		{"\xff\x1b\xff", []api.Key{key(0xfffd, 0), key(0xfffd, 2)}},
		{"\x1b\xe4\xb8", []api.Key{key(0xfffd, 2), key(0xfffd, 0)}},
		{"\xe4\x1b\xb8", []api.Key{key(0xfffd, 0), key(0xfffd, 2)}},
		{"\x1b[A", []api.Key{key('[', 2), key('A', 0)}},
		{"\u0080\u009b", []api.Key{key(0x80, 0), key(0x9b, 0)}},
	} {
		reads(t, x.b, x.want)
		reads(t, x.b, read(x.b))
	}
	if got := keys.Read(nil); len(got) != 0 {
		t.Errorf("Read(nil) = %v", got)
	}
}

func TestP18_1_ReadFewBytes(t *testing.T) {
	for n := range 1 << 16 {
		b := string([]byte{byte(n >> 8), byte(n)})
		reads(t, b, read(b))
		reads(t, b[:1], read(b[:1]))
	}
	alphabet := "\x00\x01\t\r\x1a\x1b\x1c\x1f ax\x7f\xc3\xa9\xff"
	orders := 1
	for range 5 {
		orders *= len(alphabet)
	}
	for order := range orders {
		b := make([]byte, 0, 5)
		for rest := order; len(b) < 5; rest /= len(alphabet) {
			b = append(b, alphabet[rest%len(alphabet)])
		}
		reads(t, string(b), read(string(b)))
	}
}

func TestP18_1_ReadRandom(t *testing.T) {
	rnd := rand.New(rand.NewSource(18))
	for range 20000 {
		var b []byte
		for range rnd.Intn(30) {
			switch rnd.Intn(4) {
			case 0:
				b = append(b, 27)
			case 1:
				b = append(b, byte(rnd.Intn(256)))
			case 2:
				b = append(b, byte(rnd.Intn(33)))
			case 3:
				b = append(b, string(pick(rnd, oddRunes()...))...)
			}
		}
		reads(t, string(b), read(string(b)))
	}
	long := strings.Repeat("\x1bx\x1b\x1b\x01é", 1<<17)
	reads(t, long, read(long))
}

func TestP18_1_ReadKeysAreRight(t *testing.T) {
	for n := range 1 << 16 {
		for _, k := range keys.Read([]byte{byte(n >> 8), byte(n)}) {
			if !keys.Right(k) {
				t.Fatalf("of the bytes %d and %d %v is read, which isn't right", n>>8, n&255, k)
			}
		}
	}
}

func TestP18_2_EveryKeyIsReadFromItsBytes(t *testing.T) {
	some := 0
	for r := rune(0); r <= 0x10ffff; r++ {
		for mods := range 4 {
			k := key(r, mods)
			if !keys.Right(k) || r == 27 {
				continue
			}
			some++
			if got := keys.Read(keys.Bytes(k)); len(got) != 1 || got[0] != k {
				t.Fatalf("of the bytes of %v %v is read", k, got)
			}
		}
	}
	// Of 0x110000 numbers 2048 are no runes, and 29 of those below 32 no plain keys; 29 have Ctrl; Esc was left out.
	if want := 2 * (0x110000 - 2048 - 29 + 29 - 1); some != want {
		t.Errorf("%d keys are right, not %d", some, want)
	}
}

func TestP18_2_ManyKeysAreReadFromTheirBytes(t *testing.T) {
	rnd := rand.New(rand.NewSource(2))
	for range 20000 {
		var list []api.Key
		var b []byte
		for range rnd.Intn(12) {
			if k := someKey(rnd); k.Rune != 27 {
				list = append(list, k)
				b = append(b, keys.Bytes(k)...)
			}
		}
		reads(t, string(b), list)
	}
}

func TestP18_4_BytesAndKeysAreNewMemory(t *testing.T) {
	rnd := rand.New(rand.NewSource(4))
	for range 2000 {
		k := someKey(rnd)
		first, second := keys.Bytes(k), keys.Bytes(k)
		want := bytes.Clone(second)
		spoil(first, 'x')
		if third := keys.Bytes(k); !bytes.Equal(second, want) || !bytes.Equal(third, want) {
			t.Fatalf("Bytes(%v) that were written over: another time %q, %q", k, second, third)
		}
		b := append(want, keys.Bytes(someKey(rnd))...)
		b = append(b, "spare"...)[:len(b)]
		kept := bytes.Clone(b[:len(b)+5])
		list := keys.Read(b)
		wants := slices.Clone(list)
		other := keys.Read(b)
		spoil(other, key('x', 9))
		if !bytes.Equal(b[:len(b)+5], kept) {
			t.Fatalf("Read writes into its bytes: %q, not %q", b[:len(b)+5], kept)
		}
		spoil(b, 'y')
		if !slices.Equal(list, wants) {
			t.Fatalf("keys that were read have become %v, not %v", list, wants)
		}
	}
}
