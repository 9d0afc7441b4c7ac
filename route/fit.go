package route

import (
	"slices"

	"qloom/api"
)

// exchange is how many operations bring two qubits to each other's places.
const exchange = 3

// reckoned is how many operations a circuit may have on a device of so many qubits:
// the longest way from a control to its qubit goes over all qubits, and the last
// link of it need not be gone.
func reckoned(ops []api.Op, qubits int) int {
	count := len(ops)
	for _, op := range ops {
		if isControlled(op) {
			count += exchange * max(qubits-2, 0)
		}
	}
	return count
}

// places are 0 to n - 1: where qubits stand at the start.
func places(n int) []int {
	out := make([]int, n)
	for q := range out {
		out[q] = q
	}
	return out
}

// mover does operations on a device, where each qubit stands just then.
type mover struct {
	web    links
	stands []int
	ops    []api.Op
}

// do adds an operation, and ahead of it what brings its control to its qubit. That
// is done on no condition, so that it is known where the qubits stand, whatever the
// bits are.
func (m *mover) do(op api.Op) {
	for _, control := range op.Ctl {
		m.bring(control, op.Q)
	}
	if op.Kind != api.Phase {
		op.Q = m.stands[op.Q]
	}
	op.Ctl, op.If = slices.Clone(op.Ctl), slices.Clone(op.If)
	for i, control := range op.Ctl {
		op.Ctl[i] = m.stands[control]
	}
	m.ops = append(m.ops, op)
}

// bring lets a qubit go on till it is linked to the other.
func (m *mover) bring(q, other int) {
	for {
		from, to := m.stands[q], m.stands[other]
		if m.web.has(from, to) {
			return
		}
		m.exchange(from, m.web.toward(from, to))
	}
}

// exchange brings what stands at two linked places to each other's.
func (m *mover) exchange(a, b int) {
	for range exchange {
		m.ops = append(m.ops, api.Op{Kind: api.X, Q: b, Ctl: []int{a}})
		a, b = b, a
	}
	for q, place := range m.stands {
		switch place {
		case a:
			m.stands[q] = b
		case b:
			m.stands[q] = a
		}
	}
}
