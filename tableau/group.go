package tableau

import (
	"slices"

	"qloom/pauli"
)

// group is as many Paulis as there are qubits: all that stabilize a state, which is
// known by them, are products of them, and none is a product of the others.
type group []pauli.Pauli

// basis is the group of a basis state.
func basis(qubits, in int) group {
	var g group
	for q := range qubits {
		g = append(g, told(q, in>>q&1))
	}
	return g
}

// told is the Pauli that stabilizes the states in which a qubit is 0 or 1.
func told(q, outcome int) pauli.Pauli {
	return pauli.Pauli{Z: pauli.Set(q), Minus: outcome == 1}
}

// pass takes the group through a gate.
func (g group) pass(gate pauli.Gate) {
	for i, p := range g {
		g[i] = gate(p)
	}
}

// settle takes the group to that of the state behind an outcome of a qubit; false, if
// the outcome cannot come. If a Pauli of the group does not commute with Z at the
// qubit, either outcome can come: Z takes the place of one of them, the others times
// that one commute with it. Else the group has Z with one sign, and its one form has
// it, too, as no other Pauli there leads with its column.
func (g group) settle(q, outcome int) bool {
	flips := func(p pauli.Pauli) bool { return p.X&pauli.Set(q) != 0 }
	at := slices.IndexFunc(g, flips)
	if at < 0 {
		g.order()
		return slices.Contains(g, told(q, outcome))
	}
	g.sweep(at, flips)
	g[at] = told(q, outcome)
	return true
}

// order brings the group to its one form.
func (g group) order() {
	leads := 0
	for column := range 2 * len(g) {
		has := g.column(column)
		at := slices.IndexFunc(g[leads:], has)
		if at < 0 {
			continue
		}
		g[leads], g[leads+at] = g[leads+at], g[leads]
		g.sweep(leads, has)
		leads++
	}
}

// column says of a Pauli if it has a column.
func (g group) column(column int) func(pauli.Pauli) bool {
	if column < len(g) {
		return func(p pauli.Pauli) bool { return p.X&pauli.Set(column) != 0 }
	}
	return func(p pauli.Pauli) bool { return p.Z&pauli.Set(column-len(g)) != 0 }
}

// sweep takes what one Pauli has from all others that have it, too.
func (g group) sweep(at int, has func(pauli.Pauli) bool) {
	for i, p := range g {
		if i != at && has(p) {
			g[i] = p.Times(g[at])
		}
	}
}

// texts are the Paulis of the one form, as they are written.
func (g group) texts() []string {
	g.order()
	var out []string
	for _, p := range g {
		out = append(out, p.Text(len(g)))
	}
	return out
}
