package tableau

import (
	"math/bits"

	"qloom/api"
	"qloom/pauli"
)

// homing brings Paulis back to the letters that they came of, gate by gate.
type homing struct {
	xs, zs group // what has become of the X and of the Z at each qubit
	ops    []api.Op
}

// wayBack are gates that undo what a circuit does, but for a turn of the whole: behind
// the circuit and them each X and each Z is what it was. Qubit by qubit they are
// brought home by gates on this one and those behind it; as they commute with all that
// are home, they have no letters ahead.
func wayBack(c api.Circuit) []api.Op {
	h := &homing{}
	for q := range c.Qubits {
		h.xs = append(h.xs, pauli.Pauli{X: pauli.Set(q)})
		h.zs = append(h.zs, pauli.Pauli{Z: pauli.Set(q)})
	}
	for _, op := range c.Ops {
		h.pass(op)
	}
	for q := range c.Qubits {
		h.bringHome(q)
	}
	return h.ops
}

// pass takes all Paulis through a gate.
func (h *homing) pass(op api.Op) {
	gate := pauli.GateOf(op)
	h.xs.pass(gate)
	h.zs.pass(gate)
}

// do is a gate on the way.
func (h *homing) do(op api.Op) {
	h.ops = append(h.ops, op)
	h.pass(op)
}

// bringHome makes the X and the Z at a qubit what they were: first X, but for its sign;
// then Z, between two Hs by which X is a Z at the qubit, which no gate on Z's way
// changes; at last the signs.
func (h *homing) bringHome(q int) {
	h.gather(q, h.xs)
	if z := h.zs[q]; z.X != 0 || z.Z != pauli.Set(q) {
		h.do(api.Op{Kind: api.H, Q: q})
		h.gather(q, h.zs)
		h.do(api.Op{Kind: api.H, Q: q})
	}
	if h.xs[q].Minus {
		h.do(api.Op{Kind: api.P, K: 8, Q: q})
	}
	if h.zs[q].Minus {
		h.do(api.Op{Kind: api.X, Q: q})
	}
}

// gather makes one of the Paulis an X at q, but for its sign: all of its letters become
// X, then those that are not at q go.
func (h *homing) gather(q int, from group) {
	for i := range from {
		switch set := pauli.Set(i); {
		case from[q].Z&set == 0:
		case from[q].X&set == 0:
			h.do(api.Op{Kind: api.H, Q: i})
		default:
			h.do(api.Op{Kind: api.P, K: 4, Q: i})
		}
	}
	if from[q].X&pauli.Set(q) == 0 {
		h.do(api.Op{Kind: api.X, Q: q, Ctl: []int{bits.TrailingZeros16(from[q].X)}})
	}
	for i := range from {
		if i != q && from[q].X&pauli.Set(i) != 0 {
			h.do(api.Op{Kind: api.X, Q: i, Ctl: []int{q}})
		}
	}
}
