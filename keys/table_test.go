package keys_test

import (
	"fmt"
	"math/rand"
	"slices"
	"sort"
	"strings"
	"testing"

	"casement/api"
	"casement/keys"
)

// text writes keys, each by as many bytes, so that the beginnings of lists are those of their texts, and these are in the order of the lists.
func text(seq []api.Key) (s string) {
	for _, k := range seq {
		s += fmt.Sprintf("%08x.%016x;", uint32(k.Rune), uint64(k.Mods))
	}
	return s
}

// table does what the chapter says of a board on texts: what lists of keys stand for, by mode.
type table struct {
	modes map[string]map[string]string
	some  int
	mode  string
	waits []api.Key
}

func (m *table) bind(mode string, seq []api.Key, does string) api.Errno {
	for _, s := range []string{mode, does} {
		if len(s) < 1 || len(s) > 32 {
			return 1
		}
	}
	if len(seq) < 1 || len(seq) > 4 {
		return 1
	}
	for _, k := range seq {
		if name, _ := model(k); name == "" {
			return 1
		}
	}
	list := text(seq)
	for other := range m.modes[mode] {
		if other != list && (strings.HasPrefix(other, list) || strings.HasPrefix(list, other)) {
			return 180
		}
	}
	if _, there := m.modes[mode][list]; !there {
		if m.some == 64 {
			return 3
		}
		m.some++
	}
	if m.modes[mode] == nil {
		m.modes[mode] = map[string]string{}
	}
	m.modes[mode][list] = does
	return 0
}

func (m *table) press(k api.Key) (string, []api.Key) {
	all := slices.Concat(m.waits, []api.Key{k})
	m.waits = nil
	if does, there := m.modes[m.mode][text(all)]; there {
		return does, nil
	}
	for other := range m.modes[m.mode] {
		if strings.HasPrefix(other, text(all)) {
			m.waits = all
			return "", nil
		}
	}
	return "", all
}

func (m *table) all(mode string) (list []string) {
	var seqs []string
	for seq := range m.modes[mode] {
		seqs = append(seqs, seq)
	}
	sort.Strings(seqs)
	for _, seq := range seqs {
		list = append(list, m.modes[mode][seq])
	}
	return list
}

// both lets a board and its model do one call, and holds what they answer against each other.
type both struct {
	t *testing.T
	x *keys.Board
	m *table
}

func begin(t *testing.T) *both {
	t.Helper()
	x := keys.New()
	if x == nil {
		t.Fatal("New() = nil")
	}
	return &both{t: t, x: x, m: &table{modes: map[string]map[string]string{}}}
}

func (b *both) bind(mode string, seq []api.Key, does string) {
	b.t.Helper()
	if code, want := b.x.Bind(mode, seq, does), b.m.bind(mode, seq, does); code != want {
		b.t.Fatalf("Bind(%q, %v, %q) = %d, not %d", mode, seq, does, code, want)
	}
}

func (b *both) mode(mode string) {
	b.x.Mode(mode)
	b.m.mode, b.m.waits = mode, nil
}

func (b *both) press(k api.Key) {
	b.t.Helper()
	does, told := b.x.Press(k)
	if want, wants := b.m.press(k); does != want || !slices.Equal(told, wants) {
		b.t.Fatalf("Press(%v) = %q, %v, not %q, %v", k, does, told, want, wants)
	}
}

// modes are some in which there are bindings, and some in which none can be.
func modes() []string {
	return []string{"m", "n", "base", strings.Repeat("x", 32), "", strings.Repeat("x", 33), "\xff", "other"}
}

// sees holds what waits, and what the bindings stand for, to the model.
func (b *both) sees() {
	b.t.Helper()
	if got := b.x.Waits(); !slices.Equal(got, b.m.waits) {
		b.t.Fatalf("Waits() = %v, not %v", got, b.m.waits)
	}
	for _, mode := range modes() {
		if got, want := b.x.All(mode), b.m.all(mode); !slices.Equal(got, want) {
			b.t.Fatalf("All(%q) = %q, not %q", mode, got, want)
		}
	}
}

// few are keys of which lists are made that touch one another much.
func few() []api.Key { return []api.Key{key('a', 0), key('b', 0), key('a', 2), key('a', 1)} }

func someSeq(rnd *rand.Rand, most int) (seq []api.Key) {
	for range rnd.Intn(most + 1) {
		seq = append(seq, pick(rnd, few()...))
	}
	return seq
}
