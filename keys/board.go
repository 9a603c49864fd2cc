package keys

import (
	"cmp"
	"slices"
	"strings"

	"casement/api"
)

const (
	maxName     = 32 // bytes of a mode, and of what keys stand for
	maxSeq      = 4  // keys of a binding
	maxBindings = 64
)

// binding is keys that stand for something in a mode. No binding's keys are the beginning of another one's of that mode.
type binding struct {
	mode string
	seq  []api.Key
	does string
}

// Board is bindings, and keys that wait.
type Board struct {
	bindings []binding
	mode     string
	waits    []api.Key // a true beginning of a binding's keys of the mode, or none
}

// New makes a board.
func New() *Board { return &Board{} }

func isName(s string) bool { return s != "" && len(s) <= maxName }

func isSeq(seq []api.Key) bool {
	return len(seq) > 0 && len(seq) <= maxSeq && !slices.ContainsFunc(seq, func(k api.Key) bool { return !Right(k) })
}

// begins tells whether keys are the beginning of others, or these themselves.
func begins(some, seq []api.Key) bool {
	return len(some) <= len(seq) && slices.Equal(some, seq[:len(some)])
}

// Bind binds keys.
func (x *Board) Bind(mode string, seq []api.Key, does string) api.Errno {
	if !isName(mode) || !isSeq(seq) || !isName(does) {
		return api.ErrArg
	}
	at := slices.IndexFunc(x.bindings, func(b binding) bool {
		return b.mode == mode && (begins(b.seq, seq) || begins(seq, b.seq))
	})
	// A mere piece of a text would keep all of it.
	does = strings.Clone(does)
	switch {
	case at >= 0 && len(x.bindings[at].seq) != len(seq):
		return api.ErrKey
	case at >= 0:
		x.bindings[at].does = does
	case len(x.bindings) == maxBindings:
		return api.ErrMany
	default:
		x.bindings = append(x.bindings, binding{mode: strings.Clone(mode), seq: slices.Clone(seq), does: does})
	}
	return api.OK
}

// Mode makes the mode another one.
func (x *Board) Mode(mode string) {
	// A mode that can have no bindings is as good as none, and needn't be kept, however long it is.
	if !isName(mode) {
		mode = ""
	}
	x.mode = strings.Clone(mode)
	x.waits = nil
}

// Press presses a key.
func (x *Board) Press(k api.Key) (string, []api.Key) {
	seq := append(x.Waits(), k)
	x.waits = nil
	at := slices.IndexFunc(x.bindings, func(b binding) bool { return b.mode == x.mode && begins(seq, b.seq) })
	if at < 0 {
		return "", seq
	}
	if b := x.bindings[at]; len(b.seq) == len(seq) {
		return b.does, nil
	}
	x.waits = seq
	return "", nil
}

// Waits are the keys that wait.
func (x *Board) Waits() []api.Key { return slices.Clone(x.waits) }

// All is what the bindings of a mode stand for.
func (x *Board) All(mode string) []string {
	var of []binding
	for _, b := range x.bindings {
		if b.mode == mode {
			of = append(of, b)
		}
	}
	slices.SortFunc(of, func(a, b binding) int { return slices.CompareFunc(a.seq, b.seq, order) })
	var list []string
	for _, b := range of {
		list = append(list, b.does)
	}
	return list
}

// order is below 0 where a stands ahead of b.
func order(a, b api.Key) int {
	if a.Rune != b.Rune {
		return cmp.Compare(a.Rune, b.Rune)
	}
	return cmp.Compare(a.Mods, b.Mods)
}
