package kdl_test

import (
	"fmt"
	"slices"
	"strings"
	"testing"

	"casement/api"
	"casement/kdl"
	"casement/tok"
)

// same tells whether nodes are the same; a list that is nil and one that is empty are.
func same(a, b []api.Node) bool {
	return slices.EqualFunc(a, b, func(x, y api.Node) bool {
		return x.Name == y.Name && slices.Equal(x.Args, y.Args) && slices.Equal(x.Props, y.Props) && same(x.Kids, y.Kids)
	})
}

// copied shares nothing with the nodes.
func copied(ns []api.Node) []api.Node {
	var list []api.Node
	for _, n := range ns {
		list = append(list, api.Node{Name: n.Name, Args: slices.Clone(n.Args), Props: slices.Clone(n.Props), Kids: copied(n.Kids)})
	}
	return list
}

// Where the model may be.
const (
	ahead  = "where a node may begin"
	within = "within a node"
	equals = "behind a ="
	behind = "behind a node"
)

// model reads token by token, with the nodes that are open on a stack.
type model struct {
	where string
	open  []*api.Node // the outermost one is no node, but has the text's as its kids
	names int
	prop  string // whose value comes next
}

// modelParse is what Parse is to answer.
func modelParse(text string) ([]api.Node, api.Fault) {
	ts, fault := tok.Tokens(text)
	if fault != (api.Fault{}) {
		return nil, fault
	}
	m := model{where: ahead, open: []*api.Node{{}}}
	for i, t := range ts {
		named := i+1 < len(ts) && ts[i+1].Text == "=" && ts[i+1].Kind == api.Sign
		if code := m.step(t, named); code != 0 {
			return nil, api.Fault{Code: code, At: t.At}
		}
	}
	if m.depth() > 0 || m.where == equals {
		return nil, api.Fault{Code: 82, At: len(text)}
	}
	return m.open[0].Kids, api.Fault{}
}

// last is the node that was begun last.
func (m *model) last() *api.Node {
	kids := m.open[len(m.open)-1].Kids
	return &kids[len(kids)-1]
}

// depth is how many { are open.
func (m *model) depth() int { return len(m.open) - 1 }

// step reads a token; named: a = comes next.
func (m *model) step(t api.Token, named bool) api.Errno {
	key := fmt.Sprint(t.Kind)
	if t.Kind == api.Sign {
		key = t.Text
	}
	switch m.where + " " + key {
	case ahead + " 5", behind + " 5", within + " 5":
		m.where = ahead
	case ahead + " 1", ahead + " 2":
		if m.names++; m.names > 300 {
			return 3
		}
		top := m.open[len(m.open)-1]
		top.Kids = append(top.Kids, api.Node{Name: t.Text})
		m.where = within
	case ahead + " }", behind + " }", within + " }":
		if m.depth() == 0 {
			return 80
		}
		m.open = m.open[:len(m.open)-1]
		m.where = behind
	case within + " {":
		if m.depth() >= 12 {
			return 4
		}
		m.open = append(m.open, m.last())
		m.where = ahead
	case within + " 1", within + " 2", within + " 3":
		return m.part(t, named)
	case within + " =":
		if m.prop == "" {
			return 80
		}
		m.where = equals
	case equals + " 1", equals + " 2", equals + " 3":
		n := m.last()
		n.Props = append(n.Props, api.Prop{Name: m.prop[1:], Val: modelValue(t)})
		m.where, m.prop = within, ""
	default:
		return 80
	}
	return 0
}

// part reads a value, or a property's name.
func (m *model) part(t api.Token, named bool) api.Errno {
	n := m.last()
	if !named || t.Kind == api.Int {
		n.Args = append(n.Args, modelValue(t))
		return 0
	}
	for _, p := range n.Props {
		if p.Name == t.Text {
			return 81
		}
	}
	m.prop = "=" + t.Text // never empty
	return 0
}

func modelValue(t api.Token) api.Val {
	words := map[string]api.Val{"true": {Kind: 3, Bool: true}, "false": {Kind: 3}, "null": {Kind: 4}}
	if v, ok := words[t.Text]; ok && t.Kind == api.Word {
		return v
	}
	if t.Kind == api.Int {
		return api.Val{Kind: 2, Int: t.Int}
	}
	return api.Val{Kind: 1, Text: t.Text}
}

// parses holds Parse to the model.
func parses(t *testing.T, text string) {
	t.Helper()
	got, fault := kdl.Parse(text)
	want, wrong := modelParse(text)
	if !same(got, want) || fault != wrong {
		t.Fatalf("Parse(%.300q) = %v, %v, not %v, %v", text, got, fault, want, wrong)
	}
}

// tally counts nodes that are within at most 12 others, and those that are within just 13.
func tally(ns []api.Node, depth int) (count, deep int) {
	for _, n := range ns {
		if depth > 12 {
			deep++
			continue
		}
		c, d := tally(n.Kids, depth+1)
		count, deep = count+1+c, deep+d
	}
	return count, deep
}

// any1 tells whether one of the nodes is so.
func any1(ns []api.Node, is func(n api.Node) bool) bool {
	for _, n := range ns {
		if is(n) || any1(n.Kids, is) {
			return true
		}
	}
	return false
}

func modelBadText(s string) bool {
	for _, c := range []byte(s) {
		if c < 9 || c > 10 && c < 32 || c == 127 {
			return true
		}
	}
	return false
}

func modelBadValue(v api.Val) bool {
	return v.Kind < 1 || v.Kind > 4 || v.Kind == 1 && modelBadText(v.Text)
}

func modelBad(n api.Node) bool {
	bad := modelBadText(n.Name)
	for _, v := range n.Args {
		bad = bad || modelBadValue(v)
	}
	for _, p := range n.Props {
		bad = bad || modelBadText(p.Name) || modelBadValue(p.Val)
	}
	return bad
}

func modelTwice(n api.Node) bool {
	for i, p := range n.Props {
		for _, q := range n.Props[:i] {
			if p.Name == q.Name {
				return true
			}
		}
	}
	return false
}

// modelText is what Text is to answer.
func modelText(ns []api.Node) (string, api.Errno) {
	count, deep := tally(ns, 0)
	switch {
	case count > 300:
		return "", 3
	case deep > 0:
		return "", 4
	case any1(ns, modelBad):
		return "", 1
	case any1(ns, modelTwice):
		return "", 81
	}
	text := ""
	for _, line := range lines(ns) {
		text += line + "\n"
	}
	if len(text) > 4096 {
		return "", 2
	}
	return text, 0
}

// lines are nodes' lines.
func lines(ns []api.Node) []string {
	var list []string
	for _, n := range ns {
		parts := []string{modelName(n.Name)}
		for _, v := range n.Args {
			parts = append(parts, modelSaid(v))
		}
		for _, p := range n.Props {
			parts = append(parts, modelName(p.Name)+"="+modelSaid(p.Val))
		}
		line := strings.Join(parts, " ")
		if len(n.Kids) == 0 {
			list = append(list, line)
			continue
		}
		list = append(list, line+" {")
		for _, l := range lines(n.Kids) {
			list = append(list, "    "+l)
		}
		list = append(list, "}")
	}
	return list
}

func modelName(s string) string {
	rest := strings.TrimLeft(s, "ABCDEFGHIJKLMNOPQRSTUVWXYZabcdefghijklmnopqrstuvwxyz0123456789-_.:")
	number := strings.TrimPrefix(s, "-")
	if s == "" || rest != "" || number != "" && number[0] >= '0' && number[0] <= '9' {
		return modelQuoted(s)
	}
	return s
}

func modelQuoted(s string) string {
	s = strings.ReplaceAll(s, `\`, `\\`)
	s = strings.ReplaceAll(s, `"`, `\"`)
	s = strings.ReplaceAll(s, "\n", `\n`)
	return `"` + strings.ReplaceAll(s, "\t", `\t`) + `"`
}

func modelSaid(v api.Val) string {
	return []string{"", modelQuoted(v.Text), fmt.Sprint(v.Int), fmt.Sprint(v.Bool), "null"}[v.Kind]
}

// writes holds Text to the model.
func writes(t *testing.T, ns []api.Node) {
	t.Helper()
	before := copied(ns)
	got, code := kdl.Text(ns)
	want, wrong := modelText(ns)
	if got != want || code != wrong {
		t.Fatalf("Text(%.300v) = %.300q, %d, not %.300q, %d", ns, got, code, want, wrong)
	}
	if !same(ns, before) {
		t.Fatalf("Text leaves %.300v, not %.300v", ns, before)
	}
}
