// Package glyph is layer 1: bytes as runes, runes as bytes, and how many cells they take.
package glyph

import (
	"slices"
	"unicode/utf8"
)

// Runes are the runes that bytes are read as.
func Runes(b []byte) []rune {
	var r Reader
	return append(r.Feed(b), r.Rest()...)
}

// Bytes are the bytes of runes.
func Bytes(rs []rune) []byte {
	var b []byte
	for _, r := range rs {
		b = utf8.AppendRune(b, r)
	}
	return b
}

// Reader reads bytes that come piece by piece. Its zero value is ready.
type Reader struct {
	// An array, so that a Reader that is copied shares nothing with the first one.
	wait [utf8.UTFMax - 1]byte
	n    int
}

// Feed reads some bytes more: the runes that are known now.
func (r *Reader) Feed(b []byte) []rune {
	rs, rest := read(slices.Concat(r.wait[:r.n], b))
	r.n = copy(r.wait[:], rest)
	return rs
}

// read tells the runes that are known, and the bytes at the end that may still become one.
func read(b []byte) (rs []rune, rest []byte) {
	for len(b) > 0 && utf8.FullRune(b) {
		r, n := utf8.DecodeRune(b)
		rs = append(rs, r)
		b = b[n:]
	}
	return rs, b
}

// Rest reads what waits, each byte as U+FFFD; then none waits.
func (r *Reader) Rest() []rune {
	rs := slices.Repeat([]rune{utf8.RuneError}, r.n)
	r.n = 0
	return rs
}

// Waits is how many bytes wait.
func (r *Reader) Waits() int { return r.n }
