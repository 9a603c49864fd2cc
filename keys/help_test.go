package keys_test

import (
	"math"
	"math/rand"
	"strings"
	"unicode/utf8"

	"casement/api"
	"casement/keys"
)

func key(r rune, mods int) api.Key { return api.Key{Rune: r, Mods: mods} }

// low are the keys whose byte is below 32, by that byte: letters, space and signs with Ctrl, and those that have names.
func low() [32]api.Key {
	var list [32]api.Key
	for i, r := range " abcdefgh\tjkl\rnopqrstuvwxyz\x1b\\]^_" {
		list[i] = key(r, 1)
		if i == 9 || i == 13 || i == 27 {
			list[i].Mods = 0
		}
	}
	return list
}

// names are those that aren't runes.
func names() map[rune]string {
	return map[rune]string{9: "Tab", 13: "Enter", 27: "Esc", 127: "Back", 32: "Space"}
}

// model is what the chapter says of a key: its name, which is "" if it isn't right, and its bytes.
func model(k api.Key) (name, bytes string) {
	if k.Mods < 0 || k.Mods > 3 {
		return "", ""
	}
	if k.Mods >= 2 {
		if name, bytes = model(key(k.Rune, k.Mods-2)); name == "" {
			return "", ""
		}
		before, after, found := strings.Cut(name, "Ctrl-")
		if found && k.Mods == 3 {
			return before + "Ctrl-Alt-" + after, "\x1b" + bytes
		}
		return "Alt-" + name, "\x1b" + bytes
	}
	sign := string(k.Rune)
	if other, there := names()[k.Rune]; there {
		sign = other
	}
	if k.Mods == 1 {
		for i, other := range low() {
			if k == other {
				return "Ctrl-" + sign, string([]byte{byte(i)})
			}
		}
		return "", ""
	}
	if sign != string(k.Rune) || k.Rune > 31 && k.Rune < 127 || k.Rune > 127 && utf8.ValidRune(k.Rune) {
		return sign, string(k.Rune)
	}
	return "", ""
}

// read is how the chapter reads bytes: a 27 is held, till it is known what is behind it.
func read(b string) (list []api.Key) {
	held := false
	for _, r := range b {
		k := key(r, 0)
		if r < 32 {
			k = low()[r]
		}
		switch {
		case r == 27 && !held:
			held = true
			continue
		case held && r != 27:
			k.Mods += 2
			held = false
		}
		list = append(list, k)
	}
	if held {
		list = append(list, key(27, 0))
	}
	return list
}

// ascii are the right keys of runes below 128, by name.
func ascii() map[string]api.Key {
	m := map[string]api.Key{}
	for r := range rune(128) {
		for mods := range 4 {
			if name, _ := model(key(r, mods)); name != "" {
				m[name] = key(r, mods)
			}
		}
	}
	return m
}

// parse is how the chapter reads names.
func parse(s string, ascii map[string]api.Key) (list []api.Key, code api.Errno) {
	for _, name := range strings.Split(s, " ") {
		if name == "" {
			continue
		}
		k, there := ascii[name]
		if !there {
			rest := strings.TrimPrefix(name, "Alt-")
			if rest != name {
				k.Mods = 2
			}
			if !utf8.ValidString(rest) || utf8.RuneCountInString(rest) != 1 || len(rest) == 1 {
				return nil, 180
			}
			for _, k.Rune = range rest {
			}
		}
		list = append(list, k)
	}
	return list, 0
}

// oddRunes are numbers near which much is another.
func oddRunes() []rune {
	list := []rune{math.MinInt32, math.MinInt32 + 1, math.MinInt32 + 'a', -0x110000, math.MaxInt32, math.MaxInt32 - 1, 1<<30 + 'a', 1<<24 + 'a'}
	for _, middle := range []rune{0, 9, 13, 27, 32, 64, 'I', 'M', 'i', 'm', 'a', 'z', '[', '\\', '_', '`', 127, 128, 159, 160, 0x300, 0x7ff, 0x4e2d, 0xd800, 0xdfff, 0xfffd, 0x10000, 0x10ffff} {
		for d := rune(-2); d <= 2; d++ {
			list = append(list, middle+d)
		}
	}
	return list
}

// oddMods are sums of Ctrl and Alt, and numbers that aren't.
func oddMods() []int {
	return []int{0, 1, 2, 3, 4, 5, 6, 7, 8, 16, 255, 256, 257, 1 << 32, 1<<32 + 1, 1<<32 + 2, 1 << 62, math.MaxInt, math.MaxInt - 1, math.MinInt, math.MinInt + 1, math.MinInt + 2, -1, -2, -3, -4, -256}
}

// wrongKeys are keys that aren't right.
func wrongKeys() []api.Key {
	return []api.Key{{}, key('i', 1), key('m', 3), key('a', 4), key('a', -1), key(1, 0), key(-1, 0), key(0xd800, 0), key(0x110000, 2), key(9, 1), key('A', 1), key('[', 1), key(31, 2), key('é', 1), key(math.MinInt32, math.MinInt)}
}

// someKey is a right key, most of them near others.
func someKey(rnd *rand.Rand) api.Key {
	for {
		k := key(rnd.Int31n(128), rnd.Intn(4))
		if rnd.Intn(5) == 0 {
			k = key(pick(rnd, append(oddRunes(), rnd.Int31n(0x110000))...), rnd.Intn(4))
		}
		if name, _ := model(k); name != "" {
			return k
		}
	}
}

func pick[T any](rnd *rand.Rand, of ...T) T { return of[rnd.Intn(len(of))] }

// spoil writes over a list and its spare room.
func spoil[T any](list []T, v T) {
	list = list[:cap(list)]
	for i := range list {
		list[i] = v
	}
}

// parsed are the keys of names that are right.
func parsed(s string) []api.Key {
	list, code := keys.Parse(s)
	if code != api.OK {
		panic("no names: " + s)
	}
	return list
}
