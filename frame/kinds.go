package frame

import "casement/api"

// The greatest numbers that messages have, and how many bytes their texts have at most.
const (
	mostTyped   = 256
	mostOrdered = 64
	mostShown   = 512
	mostCode    = 999
)

// span is the numbers from least to most. The zero one has 0 alone, which is what there is of all that a kind doesn't name.
type span struct{ least, most int }

func (s span) has(n int) bool { return s.least <= n && n <= s.most }

// hasLow tells whether a number of the span has this lesser byte.
func (s span) hasLow(low byte) bool {
	for n := int(low); n <= s.most; n += 256 {
		if s.has(n) {
			return true
		}
	}
	return false
}

// shape is what messages of a kind have: each side, the code, and the text's length.
type shape struct{ side, code, text span }

// shapeOf is a kind's; it is false, if there is no such kind.
func shapeOf(kind int) (shape, bool) {
	switch kind {
	case Attach, Size:
		return shape{side: span{1, api.MaxSide}}, true
	case Typed:
		return shape{text: span{1, mostTyped}}, true
	case Order:
		return shape{text: span{1, mostOrdered}}, true
	case Shows:
		return shape{text: span{1, mostShown}}, true
	case Wrong:
		return shape{code: span{1, mostCode}}, true
	case Leave, Bye:
		return shape{}, true
	}
	return shape{}, false
}

// right tells whether a message has a frame.
func right(m Msg) bool {
	s, ok := shapeOf(m.Kind)
	return ok && s.side.has(m.W) && s.side.has(m.H) && s.code.has(int(m.Code)) && s.text.has(len(m.Text))
}

// lengths are those of a kind's payloads; it is false, if there is no such kind.
func lengths(kind int) (span, bool) {
	switch kind {
	case Attach, Size:
		return span{4, 4}, true
	case Wrong:
		return span{2, 2}, true
	}
	s, ok := shapeOf(kind)
	return s.text, ok
}
