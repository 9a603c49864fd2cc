package sgr

import "casement/api"

// Where the numbers of a style's colours begin.
const (
	fg = 30
	bg = 40
)

// What a number of a colour means, counted from where its field's numbers begin.
const (
	basics   = 8  // so many colours have a number each, from 0 on
	extended = 8  // the colour is told by the numbers behind
	plain    = 9  // no colour
	bright   = 60 // so many colours more, from here on
)

// The ways in which numbers behind tell a colour.
const (
	byParts  = 2
	byNumber = 5
)

// takes is how many numbers a colour takes that is told in this way; 0: there is no such way.
var takes = [...]int{byParts: 3, byNumber: 1}

// Apply is what comes of a style by numbers.
func Apply(s api.Style, params []int) api.Style {
	s = known(s)
	params = params[:min(len(params), api.MaxParams)]
	if len(params) == 0 {
		return api.Style{}
	}
	for len(params) > 0 {
		params = step(&s, params)
	}
	return s
}

// step does what the first number says; the numbers behind those that belong to it.
func step(s *api.Style, params []int) []int {
	n, rest := params[0], params[1:]
	switch n {
	case -1, 0:
		*s = api.Style{}
	case fg + extended:
		return setExtended(&s.Fg, rest)
	case bg + extended:
		return setExtended(&s.Bg, rest)
	default:
		setMarks(&s.Attr, n)
		setBasic(&s.Fg, n-fg)
		setBasic(&s.Bg, n-bg)
	}
	return rest
}

// setMarks lets the marks come or go that a number speaks of.
func setMarks(attr *int, n int) {
	for _, m := range marks {
		switch n {
		case m.on:
			*attr |= m.mark
		case m.off:
			*attr &^= m.mark
		}
	}
}

// setBasic sets a colour by a number of its own, counted from where the field's numbers begin.
func setBasic(colour *int, n int) {
	switch {
	case n >= 0 && n < basics:
		*colour = 1 + n
	case n >= bright && n < bright+basics:
		*colour = 1 + basics + n - bright
	case n == plain:
		*colour = 0
	}
}

// setExtended sets a colour by the numbers behind; those that are left.
func setExtended(colour *int, params []int) []int {
	if len(params) == 0 {
		return nil
	}
	count, behind := taken(params[0]), params[1:]
	if count == 0 || count > len(behind) {
		return nil
	}
	if own := behind[:count]; areParts(own) {
		*colour = told(own)
	}
	return behind[count:]
}

// taken is how many numbers a colour takes that is told in this way; 0: there is no such way.
func taken(way int) int {
	if way < 0 || way >= len(takes) {
		return 0
	}
	return takes[way]
}

// areParts tells whether all numbers are such as a colour may have.
func areParts(ns []int) bool {
	for _, n := range ns {
		if n < 0 || n > 255 {
			return false
		}
	}
	return true
}

// told is the colour that one number tells, or three.
func told(ns []int) int {
	if len(ns) == 1 {
		return ns[0] + 1
	}
	return api.Rgb + ns[0]<<16 + ns[1]<<8 + ns[2]
}
