package frame_test

import (
	"bytes"
	"fmt"
	"math"
	"math/rand"
	"slices"
	"strings"
	"testing"

	"casement/api"
	"casement/frame"
)

// The kinds as the document has them.
const (
	attach = 1
	typed  = 2
	size   = 3
	leave  = 4
	order  = 5
	shows  = 6
	wrong  = 7
	bye    = 8
)

func sides(kind, w, h int) frame.Msg { return frame.Msg{Kind: kind, W: w, H: h} }

func text(kind int, s string) frame.Msg { return frame.Msg{Kind: kind, Text: []byte(s)} }

// long has n bytes.
func long(kind, n int) frame.Msg { return text(kind, strings.Repeat("x", n)) }

func code(n int) frame.Msg { return frame.Msg{Kind: wrong, Code: api.Errno(n)} }

func bare(kind int) frame.Msg { return frame.Msg{Kind: kind} }

func join(parts ...[]byte) []byte { return slices.Concat(parts...) }

func pick[T any](rnd *rand.Rand, of ...T) T { return of[rnd.Intn(len(of))] }

// wrongs are numbers that no field of a message has.
func wrongs() []int {
	return []int{-1, -2, -200, 1000, 1001, 65535, 65536, 65537, 65536 + 200, 1 << 32, 1<<32 + 1, math.MinInt, math.MinInt + 1, math.MaxInt}
}

// spoil writes over a list and its spare room.
func spoil[T any](list []T, v T) {
	list = list[:cap(list)]
	for i := range list {
		list[i] = v
	}
}

// hasLength tells whether some frame has this kind, and a payload of so many bytes.
func hasLength(kind, n int) bool {
	switch kind {
	case attach, size:
		return n == 4
	case typed:
		return n >= 1 && n <= 256
	case order:
		return n >= 1 && n <= 64
	case shows:
		return n >= 1 && n <= 512
	case wrong:
		return n == 2
	case leave, bye:
		return n == 0
	}
	return false
}

// seal makes a frame, right or not, of a kind and a payload, with the sum that it has to have.
func seal(kind int, payload []byte) []byte {
	n := len(payload)
	total := kind + n%256 + n/256
	for _, c := range payload {
		total += int(c)
	}
	return join([]byte{197, byte(kind), byte(n % 256), byte(n / 256)}, payload, []byte{byte(total % 256)})
}

// sealed is a right message's frame.
func sealed(m frame.Msg) []byte {
	two := func(n int) []byte { return []byte{byte(n % 256), byte(n / 256)} }
	switch m.Kind {
	case attach, size:
		return seal(m.Kind, join(two(m.W), two(m.H)))
	case wrong:
		return seal(m.Kind, two(int(m.Code)))
	}
	return seal(m.Kind, m.Text)
}

// opened is the message whose frame these bytes are, if they are one's.
func opened(b []byte) (frame.Msg, bool) {
	kind, payload := int(b[1]), b[4:len(b)-1]
	m := bare(kind)
	switch kind {
	case attach, size:
		m.W, m.H = int(payload[0])+256*int(payload[1]), int(payload[2])+256*int(payload[3])
		if m.W < 1 || m.W > 200 || m.H < 1 || m.H > 200 {
			return m, false
		}
	case wrong:
		if m.Code = api.Errno(int(payload[0]) + 256*int(payload[1])); m.Code < 1 || m.Code > 999 {
			return m, false
		}
	default:
		m.Text = slices.Clone(payload)
	}
	return m, bytes.Equal(sealed(m), b)
}

// heads are all beginnings, of up to four bytes, of frames.
func heads() map[string]bool {
	list := map[string]bool{}
	for kind := range 256 {
		for n := range 1 << 12 {
			if hasLength(kind, n) {
				head := string([]byte{197, byte(kind), byte(n % 256), byte(n / 256)})
				for i := range head {
					list[head[:i+1]] = true
				}
			}
		}
	}
	return list
}

// model reads all bytes that it was ever fed anew, from the first one on, at each Feed.
type model struct {
	heads map[string]bool
	all   []byte
	told  int
	waits int
}

// things are what all bytes say: messages, and single bytes that are passed over.
func (m *model) things() (list []frame.Item) {
	rest := m.all
	for len(rest) > 0 {
		if len(rest) < 4 && m.heads[string(rest)] {
			break
		}
		n := 0
		if len(rest) >= 4 && m.heads[string(rest[:4])] {
			n = 5 + int(rest[2]) + 256*int(rest[3])
		}
		if n > len(rest) {
			break
		}
		item, took := frame.Item{Bad: 1}, 1
		if n > 0 {
			if msg, ok := opened(rest[:n]); ok {
				item, took = frame.Item{Msg: msg}, n
			}
		}
		list = append(list, item)
		rest = rest[took:]
	}
	m.waits = len(rest)
	return list
}

func (m *model) Feed(b []byte) (items []frame.Item) {
	m.all = append(m.all, b...)
	list := m.things()
	for _, item := range list[m.told:] {
		if last := len(items) - 1; item.Bad > 0 && last >= 0 && items[last].Bad > 0 {
			items[last].Bad++
		} else {
			items = append(items, item)
		}
	}
	m.told = len(list)
	return items
}

// told is what items say, as text.
func told(items []frame.Item) string {
	var out strings.Builder
	for _, item := range items {
		m := item.Msg
		fmt.Fprintf(&out, "[bad %d, kind %d, %d x %d, code %d, %q]", item.Bad, m.Kind, m.W, m.H, m.Code, m.Text)
	}
	return out.String()
}

// alike tells whether items say the same.
func alike(a, b []frame.Item) bool {
	return slices.EqualFunc(a, b, func(x, y frame.Item) bool {
		return x.Bad == y.Bad && x.Msg.Kind == y.Msg.Kind && x.Msg.W == y.Msg.W && x.Msg.H == y.Msg.H && x.Msg.Code == y.Msg.Code && bytes.Equal(x.Msg.Text, y.Msg.Text)
	})
}

// both feeds a reader and its model, and holds what they tell against each other.
type both struct {
	t *testing.T
	r frame.Reader
	m model
}

func begin(t *testing.T, heads map[string]bool) *both {
	return &both{t: t, m: model{heads: heads}}
}

func (b *both) feed(piece []byte) []frame.Item {
	b.t.Helper()
	got, want := b.r.Feed(piece), b.m.Feed(piece)
	if !alike(got, want) || b.r.Waits() != b.m.waits {
		b.t.Fatalf("behind %d bytes, Feed(%v) = %s, %d wait; not %s, %d", len(b.m.all)-len(piece), piece, told(got), b.r.Waits(), told(want), b.m.waits)
	}
	return got
}

// reads holds a new reader to what it tells of bytes, and to how many wait.
func reads(t *testing.T, what string, in []byte, waits int, want ...frame.Item) {
	t.Helper()
	var r frame.Reader
	if got := r.Feed(in); told(got) != told(want) || r.Waits() != waits {
		t.Errorf("%s: Feed(%v) = %s, %d wait; not %s, %d", what, in[:min(len(in), 40)], told(got), r.Waits(), told(want), waits)
	}
}

func bad(n int) frame.Item { return frame.Item{Bad: n} }

func has(m frame.Msg) frame.Item { return frame.Item{Msg: m} }

// someText is a text of n bytes, many of them ones that begin frames.
func someText(rnd *rand.Rand, n int) []byte {
	b := make([]byte, n)
	for i := range b {
		b[i] = pick(rnd, 197, byte(rnd.Intn(9)), byte(rnd.Intn(256)), 'a')
	}
	return b
}

// someMsg is a right message.
func someMsg(rnd *rand.Rand) frame.Msg {
	kind := 1 + rnd.Intn(8)
	most := map[int]int{typed: 256, order: 64, shows: 512}[kind]
	switch kind {
	case attach, size:
		return sides(kind, 1+rnd.Intn(200), 1+rnd.Intn(200))
	case wrong:
		return code(1 + rnd.Intn(999))
	case leave, bye:
		return bare(kind)
	}
	return frame.Msg{Kind: kind, Text: someText(rnd, 1+pick(rnd, rnd.Intn(9), rnd.Intn(most), most-1)%most)}
}

// somePiece is a frame, or bytes that look like one, or any.
func somePiece(rnd *rand.Rand) []byte {
	b := sealed(someMsg(rnd))
	switch rnd.Intn(9) {
	case 0:
		return someText(rnd, rnd.Intn(6))
	case 1:
		b[rnd.Intn(len(b))]++
	case 2:
		return b[:rnd.Intn(len(b))]
	case 3:
		return b[rnd.Intn(len(b)):]
	case 4:
		return seal(rnd.Intn(10), someText(rnd, rnd.Intn(6)))
	case 5:
		return seal(pick(rnd, attach, size), []byte{byte(rnd.Intn(3)), byte(rnd.Intn(2)), byte(199 + rnd.Intn(3)), 0})
	case 6:
		return []byte{197, byte(1 + rnd.Intn(8)), byte(rnd.Intn(12)), byte(rnd.Intn(3))}
	}
	return b
}

// someStream has a number of such pieces, one behind the other.
func someStream(rnd *rand.Rand, n int) (b []byte) {
	for range n {
		b = append(b, somePiece(rnd)...)
	}
	return b
}
