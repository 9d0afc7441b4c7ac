package code

import (
	"math/bits"
	"slices"

	"qloom/api"
	"qloom/pauli"
)

// homing brings generators home, gate by gate: generator i becomes the Z at qubit i.
type homing struct {
	qubits int
	gens   []pauli.Pauli
	ops    []api.Op
}

// wayHome are gates that take each generator to the Z at its qubit.
func wayHome(f frame) []api.Op {
	h := &homing{qubits: f.qubits, gens: slices.Clone(f.gens)}
	for i := range h.gens {
		h.turnToZ(i)
		h.gather(i)
		if h.gens[i].Minus {
			h.do(api.Op{Kind: api.X, Q: i})
		}
	}
	return h.ops
}

// do takes all generators through a gate.
func (h *homing) do(op api.Op) {
	h.ops = append(h.ops, op)
	gate := pauli.GateOf(op)
	for i, p := range h.gens {
		h.gens[i] = gate(p)
	}
}

// turnToZ makes all letters of a generator Z. As it commutes with the Zs that are home,
// it has no other letters ahead of its own qubit.
func (h *homing) turnToZ(i int) {
	for q := i; q < h.qubits; q++ {
		if h.gens[i].X&pauli.Set(q) == 0 {
			continue
		}
		if h.gens[i].Z&pauli.Set(q) != 0 {
			h.do(api.Op{Kind: api.P, K: 4, Q: q})
		}
		h.do(api.Op{Kind: api.H, Q: q})
	}
}

// gather leaves of a generator's Zs the one at its qubit alone. If there is none, one
// comes there from the last Z, which is behind it: else the generator would be a product
// of those that are home. The others go by Xs at the generator's qubit with their qubits
// as controls: such Xs change no Z that is home.
func (h *homing) gather(i int) {
	if zs := h.gens[i].Z; zs&pauli.Set(i) == 0 {
		h.do(api.Op{Kind: api.X, Q: bits.Len16(zs) - 1, Ctl: []int{i}})
	}
	for q := range h.qubits {
		if q != i && h.gens[i].Z&pauli.Set(q) != 0 {
			h.do(api.Op{Kind: api.X, Q: i, Ctl: []int{q}})
		}
	}
}

// measurer measures all generators. Between two Hs of the spare qubit a generator is
// done where that is 1: what the generator leaves as it is leaves the spare qubit 0,
// what it turns by a half makes it 1.
func measurer(f frame) api.Circuit {
	spare := f.qubits
	fork := api.Op{Kind: api.H, Q: spare}
	out := api.Circuit{Qubits: spare + 1, Bits: len(f.gens)}
	for bit, gen := range f.gens {
		out.Ops = append(out.Ops, fork)
		out.Ops = append(out.Ops, doneOn(gen, spare)...)
		out.Ops = append(out.Ops, fork, api.Op{Kind: api.Measure, Q: spare, Bit: bit}, api.Op{Kind: api.Reset, Q: spare})
	}
	return out
}

// doneOn are the gates that do a Pauli of the qubits ahead of a control where that is 1.
// What the Pauli turns the whole by is a turn of the control.
func doneOn(p pauli.Pauli, control int) []api.Op {
	var ops []api.Op
	turn := 4 * bits.OnesCount16(p.X&p.Z)
	if p.Minus {
		turn += 8
	}
	for q := range control {
		if p.Z&pauli.Set(q) != 0 {
			ops = append(ops, api.Op{Kind: api.P, K: 8, Q: q, Ctl: []int{control}})
		}
		if p.X&pauli.Set(q) != 0 {
			ops = append(ops, api.Op{Kind: api.X, Q: q, Ctl: []int{control}})
		}
	}
	if turn%16 != 0 {
		ops = append(ops, api.Op{Kind: api.P, K: turn % 16, Q: control})
	}
	return ops
}
