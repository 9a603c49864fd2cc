package esc_test

import (
	"regexp"
	"slices"
	"strconv"
	"strings"
	"unicode/utf8"

	"casement/api"
)

// model reads a stream that is there as a whole, by looking ahead. It has no states, so that it can't
// share a slip with the program.
type model struct {
	b    []byte
	at   int
	acts []api.Act
	idle bool
}

// says is what the document says that bytes say, and whether nothing is begun at their end.
func says(b []byte) ([]api.Act, bool) {
	m := &model{b: b, idle: true}
	for m.at < len(m.b) && m.idle {
		m.print()
		if m.at < len(m.b) {
			m.ground(m.next())
		}
	}
	return m.acts, m.idle
}

func (m *model) next() byte {
	m.at++
	return m.b[m.at-1]
}

func (m *model) say(act api.Act) { m.acts = append(m.acts, act) }

// print reads the runes of a text, up to a byte that is none of it.
func (m *model) print() {
	end := m.at
	for end < len(m.b) && m.b[end] >= 32 && m.b[end] != 127 {
		end++
	}
	text := m.b[m.at:end]
	m.at = end
	for len(text) > 0 {
		if end == len(m.b) && !utf8.FullRune(text) {
			m.idle = false
			return
		}
		r, n := utf8.DecodeRune(text)
		m.say(api.Act{Kind: api.Print, R: r})
		text = text[n:]
	}
}

func (m *model) ground(c byte) {
	switch c {
	case 24, 26, 127:
	case 27:
		m.escape()
	default:
		m.say(api.Act{Kind: api.Exec, Final: c})
	}
}

// escape reads what is behind a 27, up to its end.
func (m *model) escape() {
	var s []byte
	for m.at < len(m.b) {
		c := m.next()
		switch {
		case c == 24 || c == 26:
			return
		case c == 27:
			s = nil
		case c < 32:
			m.say(api.Act{Kind: api.Exec, Final: c})
		case c == 127:
		case c >= 128:
			return
		default:
			s = append(s, c)
			if stringBegin.Match(s) {
				if m.text(c) {
					return
				}
				s = nil // a 27 that ended nothing
			} else if whole.Match(s) {
				m.end(string(s))
				return
			}
		}
	}
	m.idle = false
}

var (
	stringBegin = regexp.MustCompile(`^[\]PX^_]$`)
	whole       = regexp.MustCompile(`^(\[[ -?]*[@-~]|[ -/]+[0-~]|[0-Z\\-~])$`)
	rightCsi    = regexp.MustCompile(`^\[([<=>?]?)([0-9;]*)([ -/]{0,2})([@-~])$`)
	rightEsc    = regexp.MustCompile(`^([ -/]{0,2})([0-~])$`)
)

// end says a sequence that has come to its end, if it is a right one.
func (m *model) end(s string) {
	if x := rightCsi.FindStringSubmatch(s); x != nil {
		var priv byte
		if x[1] != "" {
			priv = x[1][0]
		}
		m.say(api.Act{Kind: api.Csi, Priv: priv, Params: numbers(x[2]), Inter: x[3], Final: x[4][0]})
	} else if x := rightEsc.FindStringSubmatch(s); x != nil {
		m.say(api.Act{Kind: api.Esc, Inter: x[1], Final: x[2][0]})
	}
}

// numbers are the parameters that a text of digits and ; has.
func numbers(s string) []int {
	if s == "" {
		return nil
	}
	var list []int
	for _, part := range strings.Split(s, ";") {
		n := -1
		if part != "" {
			n = 9999
			if part = strings.TrimLeft(part, "0"); len(part) <= 4 {
				n, _ = strconv.Atoi("0" + part)
			}
		}
		list = append(list, n)
	}
	return list[:min(len(list), 16)]
}

// text reads a string; false: a 27 has come that doesn't end it.
func (m *model) text(final byte) bool {
	var s []byte
	for m.at < len(m.b) {
		c := m.next()
		switch {
		case c == 7 || c == 27 && m.at < len(m.b) && m.b[m.at] == '\\':
			if c == 27 {
				m.at++
			}
			m.say(api.Act{Kind: api.Str, Final: final, Text: string(s[:min(len(s), 256)])})
			return true
		case c == 27 && m.at < len(m.b):
			return false
		case c == 24 || c == 26:
			return true
		case c >= 32:
			s = append(s, c)
		}
	}
	m.idle = false
	return true
}

// sameAct holds two acts against each other; numbers that aren't there are the same as none.
func sameAct(a, b api.Act) bool {
	return a.Kind == b.Kind && a.R == b.R && a.Final == b.Final && a.Priv == b.Priv && a.Inter == b.Inter && a.Text == b.Text && slices.Equal(a.Params, b.Params)
}

func sameActs(a, b []api.Act) bool { return slices.EqualFunc(a, b, sameAct) }
