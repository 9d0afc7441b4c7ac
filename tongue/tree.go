package tongue

import (
	"strconv"

	"qloom/api"
)

// Trees as they are written: by their types the writer tells them apart.
type (
	// program is its items.
	program []api.Node

	// block is its statements.
	block []api.Node

	// phrase is words with a tree between each two of them.
	phrase struct {
		words []string
		trees []api.Node
	}

	gate struct {
		name           string
		numbers, wires []api.Node
		body           api.Node
	}

	application struct {
		mods          []api.Node
		name          string
		numbers, refs []api.Node
	}

	// signed is a sign ahead of a tree that binds at least as tight as it.
	signed struct {
		sign  string
		binds int
		inner api.Node
	}

	// joined is a sign between two trees.
	joined struct {
		left  api.Node
		sign  string
		right api.Node
	}
)

// mostKids is how many trees stand below a node, but for lists of them, at most.
const mostKids = 3

// treeOf is a node as it is written. What is missing below it counts as a zero
// node; of that and of unknown kinds nothing is written.
func treeOf(n api.Node) any {
	kids := make([]api.Node, mostKids)
	copy(kids, n.Kids)
	switch n.Kind {
	case api.NProgram:
		return program(n.Kids)
	case api.NBlock:
		return block(n.Kids)
	case api.NGate:
		return gate{name: n.Name, numbers: kids[0].Kids, wires: kids[1].Kids, body: kids[2]}
	case api.NApply:
		return application{mods: kids[0].Kids, name: n.Name, numbers: kids[1].Kids, refs: kids[2].Kids}
	case api.NNeg:
		return signed{sign: "-", binds: likeSign, inner: kids[0]}
	case api.NNot:
		return signed{sign: "!", binds: likeNot, inner: kids[0]}
	case api.NBin:
		return joined{left: kids[0], sign: n.Name, right: kids[1]}
	case api.NAnd:
		return joined{left: kids[0], sign: "&", right: kids[1]}
	case api.NOr:
		return joined{left: kids[0], sign: "|", right: kids[1]}
	case api.NXor:
		return joined{left: kids[0], sign: "^", right: kids[1]}
	}
	return phrase{words: wordsOf(n), trees: kids}
}

// wordsOf is the words of a phrase: one more than it has trees.
func wordsOf(n api.Node) []string {
	switch n.Kind {
	case api.NQubit:
		return []string{"qubit " + n.Name + "[", "];"}
	case api.NBit:
		return []string{"bit " + n.Name + "[", "];"}
	case api.NConst:
		return []string{"const " + n.Name + " = ", ";"}
	case api.NFor:
		return []string{"for " + n.Name + " in ", " .. ", " ", ""}
	case api.NWhen:
		return []string{"when ", " ", ""}
	case api.NIf:
		return wordsOfIf(n)
	case api.NMeasure:
		return []string{"measure ", " -> ", ";"}
	case api.NReset:
		return []string{"reset ", ";"}
	case api.NWithin:
		return []string{"within ", " apply ", ""}
	case api.NFlip:
		return []string{"", " ^= ", ";"}
	case api.NInv:
		return []string{"inv"}
	case api.NCtrl:
		return []string{"ctrl"}
	case api.NPow:
		return []string{"pow(", ")"}
	case api.NParam:
		return wordsOfParam(n)
	case api.NRef:
		return wordsOfRef(n)
	case api.NNum, api.NOne:
		return []string{strconv.Itoa(n.N)}
	case api.NName:
		return []string{n.Name}
	case api.NSize:
		return []string{"size(" + n.Name + ")"}
	}
	return nil
}

func wordsOfIf(n api.Node) []string {
	words := []string{"if ", " ", ""}
	if n.N == 1 {
		words[0] = "if !"
	}
	if len(n.Kids) > 2 {
		words[2] = " else "
		words = append(words, "")
	}
	return words
}

func wordsOfParam(n api.Node) []string {
	if n.N == 1 {
		return []string{n.Name + "[]"}
	}
	return []string{n.Name}
}

func wordsOfRef(n api.Node) []string {
	switch len(n.Kids) {
	case 0:
		return []string{n.Name}
	case 1:
		return []string{n.Name + "[", "]"}
	}
	return []string{n.Name + "[", " .. ", "]"}
}

// How tight trees bind, the loosest first. Numbers and truths never stand side
// by side, so that both have their place in one order.
const (
	likeComparison = iota
	likeSum
	likeProduct
	likeSign
	likeOr
	likeXor
	likeAnd
	likeNot
	likeUnit
)

// binding is how tight a sign between two trees binds, and how tight the left and
// the right one of them must, if they have no brackets.
func binding(sign string) (own, left, right int) {
	switch sign {
	case "+", "-":
		return likeSum, likeSum, likeProduct
	case "*", "/", "%":
		return likeProduct, likeProduct, likeSign
	case "**":
		return likeSign, likeUnit, likeSign
	case "|":
		return likeOr, likeOr, likeXor
	case "^":
		return likeXor, likeXor, likeAnd
	case "&":
		return likeAnd, likeAnd, likeNot
	}
	return likeComparison, likeSum, likeSum
}

// tightness is how tight a tree binds.
func tightness(tree any) int {
	switch t := tree.(type) {
	case signed:
		return t.binds
	case joined:
		own, _, _ := binding(t.sign)
		return own
	}
	return likeUnit
}
