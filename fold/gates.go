package fold

import (
	"slices"

	"qloom/api"
)

// gate is an operation that is no Phase. Its controls are the list that was handed in,
// which is only read. Sets of qubits have bit q for qubit q.
type gate struct {
	kind, k, q int
	controls   []int
	changes    uint16 // the qubit of an X or an H
	reads      uint16 // the controls; of a P its qubit, too, which is to it as they are
}

// gateOf is the gate of an operation.
func gateOf(op api.Op) gate {
	g := gate{kind: op.Kind, k: op.K, q: op.Q, controls: op.Ctl}
	for _, q := range op.Ctl {
		g.reads |= 1 << q
	}
	if op.Kind == api.P {
		g.reads |= 1 << op.Q
	} else {
		g.changes = 1 << op.Q
	}
	return g
}

// op is the gate as an operation, with a list of its own.
func (g gate) op() api.Op {
	return api.Op{Kind: g.kind, K: g.k, Q: g.q, Ctl: slices.Clone(g.controls)}
}

// alike: do the gates do the same, but for how far they turn?
func alike(a, b *gate) bool {
	return a.changes == b.changes && a.reads == b.reads && a.kind == b.kind
}

// commute: is it all one which of the gates comes first? So it is if neither changes
// what the other reads, and what both change they change in the same way.
func commute(a, b *gate) bool {
	if a.changes&b.reads != 0 || b.changes&a.reads != 0 {
		return false
	}
	return a.changes&b.changes == 0 || a.kind == b.kind
}

// joined are gates that do what the gates do, without turns by 0, and of which no two
// that can be brought side by side become one or none. Gate by gate that is so of all
// that are there: so of gates with what undoes them behind them nothing is left,
// whatever was joined ahead.
func joined(gates []gate) []gate {
	var left []gate
	for _, g := range gates {
		if g.kind != api.P || g.k != 0 {
			left = join(left, g)
		}
	}
	return left
}

// join adds a gate to others: with one that is alike it becomes one, or none. (An X
// and an H have a K of 0, and undo themselves.)
func join(left []gate, g gate) []gate {
	i := partner(left, &g)
	if i < 0 {
		return append(left, g)
	}
	if k := sixteenths(left[i].k + g.k); k != 0 {
		left[i].k = k
		return left
	}
	return slices.Delete(left, i, i+1)
}

// partner is the place of the gate that is alike and can be brought side by side with
// a gate behind all of them; -1, if there is none.
func partner(left []gate, g *gate) int {
	for i := len(left) - 1; i >= 0; i-- {
		if alike(&left[i], g) {
			return i
		}
		if !commute(&left[i], g) {
			return -1
		}
	}
	return -1
}
