package tok_test

import (
	"math/big"
	"regexp"
	"slices"
	"strings"
	"testing"

	"casement/api"
	"casement/tok"
)

// The model's forms: each is looked for where the text is read up to.
var (
	between   = regexp.MustCompile(`^(?s:[\t\r ]|//[^\n]*|/\*.*?\*/)+`)
	breaks    = regexp.MustCompile(`^[\n;]`)
	signs     = regexp.MustCompile(`^[{}=]`)
	quotes    = regexp.MustCompile(`^(?s:"(?:[^"\\]|\\.)*")`)
	ints      = regexp.MustCompile(`^-?[0-9]+`)
	words     = regexp.MustCompile(`^[A-Za-z0-9_.:-]+`)
	inQuotes  = regexp.MustCompile(`(?s:\\.|.)`)
	forbidden = regexp.MustCompile(`^[\x00-\x1f\x7f]$`)
)

// model reads a text by regular expressions.
type model struct {
	text   string
	at     int
	tokens []api.Token
	ends   []int // where the tokens end
}

// modelTokens is what Tokens is to answer, and where the tokens end.
func modelTokens(text string) ([]api.Token, []int, api.Fault) {
	if len(text) > 4096 {
		return nil, nil, api.Fault{Code: 2}
	}
	m := model{text: text}
	for {
		m.at += len(between.FindString(text[m.at:]))
		if m.at == len(text) {
			return m.tokens, m.ends, api.Fault{}
		}
		if f := m.step(); f != (api.Fault{}) {
			return nil, nil, f
		}
	}
}

func (m *model) add(kind int, text string, value int64, raw string) {
	m.tokens = append(m.tokens, api.Token{Kind: kind, Text: text, Int: value, At: m.at})
	m.at += len(raw)
	m.ends = append(m.ends, m.at)
}

// step reads a token.
func (m *model) step() api.Fault {
	rest := m.text[m.at:]
	if raw := breaks.FindString(rest); raw != "" {
		m.add(5, raw, 0, raw)
	} else if raw := signs.FindString(rest); raw != "" {
		m.add(4, raw, 0, raw)
	} else if raw := quotes.FindString(rest); raw != "" {
		text, fault := m.inside(raw)
		if fault != (api.Fault{}) {
			return fault
		}
		m.add(2, text, 0, raw)
	} else if raw := ints.FindString(rest); raw != "" {
		n, _ := new(big.Int).SetString(raw, 10)
		if !n.IsInt64() || words.MatchString(rest[len(raw):]) {
			return api.Fault{Code: 73, At: m.at}
		}
		m.add(3, raw, n.Int64(), raw)
	} else if raw := words.FindString(rest); raw != "" {
		m.add(1, raw, 0, raw)
	} else if rest[0] == '"' || strings.HasPrefix(rest, "/*") {
		return api.Fault{Code: 71, At: m.at}
	} else {
		return api.Fault{Code: 70, At: m.at}
	}
	return api.Fault{}
}

// inside is what a Quote says.
func (m *model) inside(raw string) (string, api.Fault) {
	means := map[string]string{`\"`: `"`, `\\`: `\`, `\n`: "\n", `\t`: "\t"}
	text := ""
	for _, part := range inQuotes.FindAllStringIndex(raw[1:len(raw)-1], -1) {
		said, at := raw[1+part[0]:1+part[1]], m.at+1+part[0]
		switch {
		case forbidden.MatchString(said):
			return "", api.Fault{Code: 70, At: at}
		case said[0] != '\\':
			text += said
		case means[said] == "":
			return "", api.Fault{Code: 72, At: at}
		default:
			text += means[said]
		}
	}
	return text, api.Fault{}
}

// isWord is what Plain is to answer.
func isWord(s string) bool {
	return len(s) <= 4096 && s != "" && words.FindString(s) == s && !ints.MatchString(s)
}

// answers holds Tokens and Plain to the model.
func answers(t *testing.T, text string) {
	t.Helper()
	got, fault := tok.Tokens(text)
	want, _, wrong := modelTokens(text)
	if !slices.Equal(got, want) || fault != wrong {
		t.Fatalf("Tokens(%.200q) = %v, %v, not %v, %v", text, got, fault, want, wrong)
	}
	if tok.Plain(text) != isWord(text) {
		t.Fatalf("Plain(%.200q) = %v", text, tok.Plain(text))
	}
}
