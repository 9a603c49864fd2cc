package keys

import (
	"strings"
	"unicode/utf8"

	"casement/api"
)

// What stands ahead of a name.
const (
	withCtrl = "Ctrl-"
	withAlt  = "Alt-"
)

// sign is a key that is called otherwise than by its rune.
type sign struct {
	r    rune
	name string
}

var signs = [...]sign{{tab, "Tab"}, {enter, "Enter"}, {esc, "Esc"}, {back, "Back"}, {space, "Space"}}

// Name is a key's name.
func Name(k api.Key) string {
	if !Right(k) {
		return ""
	}
	name := called(k.Rune)
	if k.Mods&Alt != 0 {
		name = withAlt + name
	}
	if k.Mods&Ctrl != 0 {
		name = withCtrl + name
	}
	return name
}

// called is what a rune is called in a name.
func called(r rune) string {
	for _, s := range signs {
		if s.r == r {
			return s.name
		}
	}
	return string(r)
}

// Parse are the keys of names.
func Parse(s string) ([]api.Key, api.Errno) {
	var list []api.Key
	for s != "" {
		name, rest, _ := strings.Cut(s, " ")
		s = rest
		if name == "" { // a blank ahead of a name, or behind another one
			continue
		}
		k := meant(name)
		if Name(k) != name {
			return nil, api.ErrKey
		}
		list = append(list, k)
	}
	return list, api.OK
}

// meant is the key that a text names, if any key has that name.
func meant(name string) (k api.Key) {
	name, ctrl := strings.CutPrefix(name, withCtrl)
	if ctrl {
		k.Mods |= Ctrl
	}
	name, alt := strings.CutPrefix(name, withAlt)
	if alt {
		k.Mods |= Alt
	}
	k.Rune = runeOf(name)
	return k
}

// runeOf is the rune that is called so, if any is.
func runeOf(name string) rune {
	for _, s := range signs {
		if s.name == name {
			return s.r
		}
	}
	r, _ := utf8.DecodeRuneInString(name)
	return r
}
