package esc

import (
	"slices"

	"casement/api"
)

// maxInter is how many bytes may stand between a sequence's beginning and its end.
const maxInter = 2

// sequence is what has come of a sequence that is begun. It has arrays, so that a Parser that is copied shares nothing
// with the first one.
type sequence struct {
	spoiled bool
	priv    byte
	final   byte // of a string: it stands at the beginning
	inter   string
	// One place more than numbers count: the last one takes whatever comes beyond.
	params [api.MaxParams + 1]int
	count  int
	text   [api.MaxString]byte
	size   int
}

// addInter takes one more byte of Inter.
func (s *sequence) addInter(b byte) {
	if len(s.inter) == maxInter {
		s.spoiled = true
		return
	}
	s.inter += string([]byte{b})
}

// addParam takes a byte from 48 to 63 of a control sequence.
func (s *sequence) addParam(b byte) {
	switch {
	case s.inter != "" || b == ':':
		s.spoiled = true
	case b <= ';':
		s.addNumber(b)
	case s.count == 0 && s.priv == 0 && !s.spoiled:
		s.priv = b
	default:
		s.spoiled = true
	}
}

// addNumber takes a digit, or the ; behind which the next number begins.
func (s *sequence) addNumber(b byte) {
	if s.count == 0 {
		s.nextNumber()
	}
	if b == ';' {
		s.nextNumber()
		return
	}
	n := &s.params[s.count-1]
	*n = min(max(*n, 0)*10+int(b-'0'), api.MaxNum)
}

// nextNumber begins a number, which is -1 as long as it has no digits.
func (s *sequence) nextNumber() {
	s.count = min(s.count+1, len(s.params))
	s.params[s.count-1] = -1
}

// addText takes one more byte of a string.
func (s *sequence) addText(b byte) {
	if s.size < len(s.text) {
		s.text[s.size] = b
		s.size++
	}
}

// esc is the act of an escape that ends.
func (s *sequence) esc(final byte) api.Act {
	return api.Act{Kind: api.Esc, Inter: s.inter, Final: final}
}

// csi is the act of a control sequence that ends.
func (s *sequence) csi(final byte) api.Act {
	numbers := slices.Clone(s.params[:min(s.count, api.MaxParams)])
	return api.Act{Kind: api.Csi, Priv: s.priv, Params: numbers, Inter: s.inter, Final: final}
}

// str is the act of a string that ends.
func (s *sequence) str() api.Act {
	return api.Act{Kind: api.Str, Final: s.final, Text: string(s.text[:s.size])}
}
