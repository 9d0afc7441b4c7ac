package weave

import (
	"iter"

	"qloom/api"
	"qloom/rev"
)

// mostTruth is how many nodes a truth may have. An expression of layer 5 has at
// most two of its own for each of them.
const mostTruth = api.MaxNodes / 2

// nodes ranges over a truth's nodes, each ahead of those below it. What stands in
// a reference's brackets is not among them.
func nodes(truth api.Node) iter.Seq[api.Node] {
	return func(yield func(api.Node) bool) { walk(truth, yield) }
}

// walk hands over the nodes: are more of them asked for?
func walk(truth api.Node, yield func(api.Node) bool) bool {
	if !yield(truth) {
		return false
	}
	if truth.Kind == api.NRef {
		return true
	}
	for _, part := range truth.Kids {
		if !walk(part, yield) {
			return false
		}
	}
	return true
}

// isLong: has a truth too many nodes?
func isLong(truth api.Node) bool {
	count := 0
	for range nodes(truth) {
		count++
		if count > mostTruth {
			return true
		}
	}
	return false
}

// flip turns a qubit over, once for each product that is 1.
func (w *weaver) flip(n api.Node) {
	if isLong(kid(n, 1)) {
		refuse(api.ErrLong, n.At)
	}
	q := w.one(kid(n, 0), someQubits)
	// A truth that is not too long is an expression without a fault.
	products, _ := rev.Normal(w.truth(kid(n, 1), q), api.MaxWires)
	w.spend(len(products), n.At)
	for _, product := range products {
		w.putGate(api.Op{Kind: api.X, Q: q, Ctl: product})
	}
}

// truth is a truth as an expression of qubits, of which one may not be among them.
func (w *weaver) truth(n api.Node, not int) api.Expr {
	switch n.Kind {
	case api.NRef:
		return w.variable(n, not)
	case api.NOne:
		return fixedTruth(n.N)
	case api.NNot:
		return join(api.BNot, w.truth(kid(n, 0), not))
	case api.NAnd:
		return w.pair(api.BAnd, n, not)
	case api.NOr:
		return w.pair(api.BOr, n, not)
	case api.NXor:
		return w.pair(api.BXor, n, not)
	}
	panic(refusal{Code: api.ErrKind, At: n.At})
}

func (w *weaver) variable(n api.Node, not int) api.Expr {
	q := w.one(n, someQubits)
	if q == not {
		refuse(api.ErrClone, n.At)
	}
	return api.Expr{Kind: api.BBit, V: q}
}

func fixedTruth(n int) api.Expr {
	one := api.Expr{Kind: api.BOne}
	if n == 1 {
		return one
	}
	return join(api.BNot, one)
}

func (w *weaver) pair(kind int, n api.Node, not int) api.Expr {
	left := w.truth(kid(n, 0), not)
	right := w.truth(kid(n, 1), not)
	return join(kind, left, right)
}

func join(kind int, parts ...api.Expr) api.Expr { return api.Expr{Kind: kind, Args: parts} }
