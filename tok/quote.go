package tok

import "casement/api"

// quote reads a quoted text. Where it has no end, that is wrong at its beginning, so ahead of all that is wrong within it.
func (r *reader) quote(rest string) {
	end := quoteEnd(rest)
	if end < 0 {
		r.fail(api.ErrOpen, r.at)
		return
	}
	text, fault := unquoted(rest[1:end])
	if fault.Code != api.OK {
		r.fail(fault.Code, r.at+1+fault.At)
		return
	}
	r.add(api.Token{Kind: api.Quote, Text: text}, end+1)
}

// quoteEnd is where the " stands that ends the Quote that a text begins with; -1: nowhere.
func quoteEnd(text string) int {
	for at := 1; at < len(text); at++ {
		switch text[at] {
		case '\\':
			at++ // what stands behind it ends nothing
		case '"':
			return at
		}
	}
	return -1
}

// unquoted is what bytes between quotes say, or the first thing that is wrong with them. Each \ has a byte behind it.
func unquoted(inside string) (string, api.Fault) {
	var text []byte
	for at := 0; at < len(inside); at++ {
		c := inside[at]
		if isControl(c) {
			return "", api.Fault{Code: api.ErrSign, At: at}
		}
		if c == '\\' {
			at++
			if c = escaped(inside[at]); c == 0 {
				return "", api.Fault{Code: api.ErrEscape, At: at - 1}
			}
		}
		text = append(text, c)
	}
	return string(text), api.Fault{}
}

// escaped is the byte that an escape stands for; 0: there is no such escape.
func escaped(c byte) byte {
	switch c {
	case '"', '\\':
		return c
	case 'n':
		return '\n'
	case 't':
		return '\t'
	}
	return 0
}
