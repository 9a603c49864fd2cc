package tok

import (
	"strconv"
	"strings"

	"casement/api"
)

// reader goes through a text, up to its end or its first fault.
type reader struct {
	text   string
	at     int // what is ahead of it is read
	tokens []api.Token
	fault  api.Fault
}

// next reads what begins here: a token, blanks or a remark.
func (r *reader) next() {
	rest := r.text[r.at:]
	switch c := rest[0]; {
	case isBlank(c):
		r.at += span(rest, isBlank)
	case strings.HasPrefix(rest, "//"):
		r.at += span(rest, inLine)
	case strings.HasPrefix(rest, "/*"):
		r.remark(rest)
	case isBreak(c):
		r.tell(api.Break, rest[:1])
	case isSign(c):
		r.tell(api.Sign, rest[:1])
	case c == '"':
		r.quote(rest)
	case intLength(rest) > 0:
		r.integer(rest)
	case isWord(c):
		r.tell(api.Word, rest[:span(rest, isWord)])
	default:
		r.fail(api.ErrSign, r.at)
	}
}

// fail ends the reading.
func (r *reader) fail(code api.Errno, at int) {
	r.fault = api.Fault{Code: code, At: at}
}

// add tells a token that takes so many bytes.
func (r *reader) add(t api.Token, n int) {
	t.At = r.at
	r.tokens = append(r.tokens, t)
	r.at += n
}

// tell tells a token whose text is what stands there.
func (r *reader) tell(kind int, text string) {
	r.add(api.Token{Kind: kind, Text: strings.Clone(text)}, len(text))
}

// remark passes over a remark that has an end of its own.
func (r *reader) remark(rest string) {
	const begin, end = "/*", "*/"
	n := strings.Index(rest[len(begin):], end)
	if n < 0 {
		r.fail(api.ErrOpen, r.at)
		return
	}
	r.at += len(begin) + n + len(end)
}

// intLength is how many bytes the Int has that a text begins with; 0: it begins with none.
func intLength(text string) int {
	digits := strings.TrimPrefix(text, "-")
	n := span(digits, isDigit)
	if n == 0 {
		return 0
	}
	return len(text) - len(digits) + n
}

// integer reads an Int.
func (r *reader) integer(rest string) {
	n := intLength(rest)
	value, err := strconv.ParseInt(rest[:n], 10, 64)
	if err != nil || span(rest[n:], isWord) > 0 {
		r.fail(api.ErrInt, r.at)
		return
	}
	r.add(api.Token{Kind: api.Int, Text: strings.Clone(rest[:n]), Int: value}, n)
}
