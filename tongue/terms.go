package tongue

import (
	"slices"
	"strconv"
	"strings"

	"qloom/api"
)

// join is the node of the operator at which the reader stands, between what
// stands ahead of it and what part reads behind it.
func (in *reader) join(kind int, left api.Node, part func() api.Node) api.Node {
	sign := in.word
	n := in.open(kind)
	if kind == api.NBin {
		n.Name = strings.Clone(sign)
	}
	n.Kids = append(n.Kids, left)
	n.Kids = append(n.Kids, part())
	return n
}

// chain reads what part reads, with any of the signs between, grouped to the left.
func (in *reader) chain(kind int, part func() api.Node, signs ...string) api.Node {
	n := part()
	for slices.Contains(signs, in.word) {
		n = in.join(kind, n, part)
	}
	return n
}

// prefix is the node of the sign at which the reader stands, ahead of what part reads.
func (in *reader) prefix(kind int, part func() api.Node) api.Node {
	n := in.open(kind)
	n.Kids = append(n.Kids, part())
	return n
}

// number is the node of the number at which the reader stands. It has so few
// digits that an int holds it.
func (in *reader) number(kind int) api.Node {
	value, _ := strconv.Atoi(in.word)
	n := in.open(kind)
	n.N = value
	return n
}

func (in *reader) expr() api.Node {
	n := in.sum()
	switch in.word {
	case "==", "!=", "<", "<=", ">", ">=":
		return in.join(api.NBin, n, in.sum)
	}
	return n
}

func (in *reader) sum() api.Node { return in.chain(api.NBin, in.prod, "+", "-") }

func (in *reader) prod() api.Node { return in.chain(api.NBin, in.sign, "*", "/", "%") }

func (in *reader) sign() api.Node {
	if in.word == "-" {
		return in.prefix(api.NNeg, in.sign)
	}
	n := in.unit()
	if in.word == "**" {
		return in.join(api.NBin, n, in.sign)
	}
	return n
}

func (in *reader) unit() api.Node {
	switch {
	case in.kind == aNumber:
		return in.number(api.NNum)
	case in.word == "size":
		return in.size()
	case in.word == "(":
		return in.between("(", in.expr, ")")
	}
	return in.named(api.NName)
}

func (in *reader) size() api.Node {
	n := in.open(api.NSize)
	in.need("(")
	n.Name = in.name()
	in.need(")")
	return n
}

func (in *reader) truth() api.Node { return in.chain(api.NOr, in.xor, "|") }

func (in *reader) xor() api.Node { return in.chain(api.NXor, in.and, "^") }

func (in *reader) and() api.Node { return in.chain(api.NAnd, in.not, "&") }

func (in *reader) not() api.Node {
	switch in.word {
	case "!":
		return in.prefix(api.NNot, in.not)
	case "(":
		return in.between("(", in.truth, ")")
	case "0", "1":
		return in.number(api.NOne)
	}
	return in.ref()
}
