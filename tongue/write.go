package tongue

import (
	"strings"

	"qloom/api"
)

// writer writes trees. It knows how many tabs stand ahead of its line.
type writer struct {
	text []byte
	tabs int
}

func (out *writer) put(words ...string) {
	for _, word := range words {
		out.text = append(out.text, word...)
	}
}

// line begins a line.
func (out *writer) line() { out.put("\n", strings.Repeat("\t", out.tabs)) }

// node writes a node.
func (out *writer) node(n api.Node) { out.tree(treeOf(n)) }

// tree writes a tree.
func (out *writer) tree(tree any) {
	switch t := tree.(type) {
	case program:
		out.program(t)
	case block:
		out.block(t)
	case phrase:
		out.phrase(t)
	case gate:
		out.gate(t)
	case application:
		out.application(t)
	case signed:
		out.put(t.sign)
		out.operand(t.inner, t.binds)
	case joined:
		out.joined(t)
	}
}

func (out *writer) program(items program) {
	for _, item := range items {
		out.node(item)
		out.line()
	}
}

func (out *writer) block(statements block) {
	out.put("{")
	out.tabs++
	for _, statement := range statements {
		out.line()
		out.node(statement)
	}
	out.tabs--
	out.line()
	out.put("}")
}

// list writes nodes with commas between them.
func (out *writer) list(parts []api.Node) {
	for i, part := range parts {
		if i > 0 {
			out.put(", ")
		}
		out.node(part)
	}
}

func (out *writer) phrase(p phrase) {
	for i, word := range p.words {
		if i > 0 {
			out.node(p.trees[i-1])
		}
		out.put(word)
	}
}

func (out *writer) gate(g gate) {
	out.put("gate ", g.name)
	out.numbers(g.numbers)
	out.put(" ")
	out.list(g.wires)
	out.put(" ")
	out.node(g.body)
}

func (out *writer) application(a application) {
	for _, mod := range a.mods {
		out.node(mod)
		out.put(" @ ")
	}
	out.put(a.name)
	out.numbers(a.numbers)
	if len(a.refs) > 0 {
		out.put(" ")
	}
	out.list(a.refs)
	out.put(";")
}

// numbers writes a list in brackets, if there is anything in it.
func (out *writer) numbers(parts []api.Node) {
	if len(parts) == 0 {
		return
	}
	out.put("(")
	out.list(parts)
	out.put(")")
}

func (out *writer) joined(j joined) {
	_, left, right := binding(j.sign)
	out.operand(j.left, left)
	out.put(" ", j.sign, " ")
	out.operand(j.right, right)
}

// operand writes a node, in brackets if it binds looser than it must.
func (out *writer) operand(n api.Node, least int) {
	tree := treeOf(n)
	if tightness(tree) >= least {
		out.tree(tree)
		return
	}
	out.put("(")
	out.tree(tree)
	out.put(")")
}
