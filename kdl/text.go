package kdl

import (
	"strconv"

	"casement/api"
	"casement/tok"
)

// step is what stands ahead of a node's line for each { that it stands in.
const step = "    "

// writer writes a text, as far as one may go.
type writer struct {
	text []byte
	long bool // more than may be was to be written
}

// put writes something behind.
func (w *writer) put(s string) {
	if w.long || len(s) > api.MaxText-len(w.text) {
		w.long = true
		return
	}
	w.text = append(w.text, s...)
}

// nodes writes nodes that have this ahead of their lines.
func (w *writer) nodes(ns []api.Node, ahead string) {
	for _, n := range ns {
		w.put(ahead)
		w.name(n.Name)
		w.parts(n)
		if len(n.Kids) > 0 {
			w.put(" {\n")
			w.nodes(n.Kids, ahead+step)
			w.put(ahead)
			w.put("}")
		}
		w.put("\n")
	}
}

// parts writes a node's values and properties.
func (w *writer) parts(n api.Node) {
	for _, v := range n.Args {
		w.put(" ")
		w.value(v)
	}
	for _, x := range n.Props {
		w.put(" ")
		w.name(x.Name)
		w.put("=")
		w.value(x.Val)
	}
}

// name writes a name.
func (w *writer) name(s string) {
	if tok.Plain(s) {
		w.put(s)
		return
	}
	w.quote(s)
}

// value writes a value.
func (w *writer) value(v api.Val) {
	switch v.Kind {
	case api.VText:
		w.quote(v.Text)
	case api.VInt:
		w.put(strconv.FormatInt(v.Int, 10))
	case api.VBool:
		w.put(strconv.FormatBool(v.Bool))
	case api.VNull:
		w.put("null")
	}
}

// quote writes a text in quotes. What stands between escapes is written as the bytes that it is, for not all are of runes.
func (w *writer) quote(s string) {
	w.put(`"`)
	from := 0
	for at, r := range s {
		if e := escape(r); e != "" {
			w.put(s[from:at])
			w.put(e)
			from = at + 1
		}
	}
	w.put(s[from:])
	w.put(`"`)
}
