package frame

import (
	"iter"
	"slices"
)

// mostWaiting is how many bytes wait at most: the longest frame without its last byte.
const mostWaiting = headSize + mostShown + sumSize - 1

// Item is a message, or how many bytes were passed over.
type Item struct {
	Msg Msg
	Bad int
}

// Reader reads bytes that come piece by piece. Its zero value is ready.
type Reader struct {
	// An array, so that a Reader that is copied shares nothing with the first one.
	wait [mostWaiting]byte
	n    int
}

// Feed reads some bytes more.
func (r *Reader) Feed(b []byte) []Item {
	var items []Item
	rest := slices.Concat(r.wait[:r.n], b)
	for item, n := range parts(rest) {
		items = join(items, item)
		rest = rest[n:]
	}
	r.n = copy(r.wait[:], rest)
	return items
}

// Waits is how many bytes wait.
func (r *Reader) Waits() int { return r.n }

// parts parts bytes, up to those that wait: what each piece is, and how many bytes it has.
func parts(b []byte) iter.Seq2[Item, int] {
	return func(yield func(Item, int) bool) {
		for rest := b; len(rest) > 0; {
			item, n := first(rest)
			if n == 0 || !yield(item, n) {
				return
			}
			rest = rest[n:]
		}
	}
}

// join adds an item; bytes that are passed over behind others make those more.
func join(items []Item, item Item) []Item {
	if last := len(items) - 1; last >= 0 && items[last].Bad > 0 && item.Bad > 0 {
		items[last].Bad += item.Bad
		return items
	}
	return append(items, item)
}

// first is what stands at the beginning of bytes, and how many of them it has; 0, if they wait.
func first(b []byte) (Item, int) {
	if n, ok := need(b); ok {
		if n > len(b) {
			return Item{}, 0
		}
		if m, ok := read(b[:n]); ok {
			return Item{Msg: m}, n
		}
	}
	return Item{Bad: 1}, 1
}

// need is how many bytes a frame that begins so has, or, as long as that isn't known, a head; it is false, if none begins so.
func need(b []byte) (int, bool) {
	if b[0] != mark {
		return 0, false
	}
	if len(b) == 1 {
		return headSize, true
	}
	of, ok := lengths(int(b[1]))
	switch {
	case !ok:
		return 0, false
	case len(b) == 2:
		return headSize, true
	case len(b) == 3:
		return headSize, of.hasLow(b[2])
	}
	n := number(b[2:])
	return headSize + n + sumSize, of.has(n)
}

// read is the message of bytes that have a frame's kind, and its length; it is false, if they are no right frame.
func read(b []byte) (Msg, bool) {
	end := len(b) - sumSize
	if sum(b[1:end]) != b[end] {
		return Msg{}, false
	}
	m := message(int(b[1]), b[headSize:end])
	return m, right(m)
}
