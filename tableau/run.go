package tableau

import (
	"slices"

	"qloom/api"
	"qloom/pauli"
)

// run is a run of a circuit that is under way.
type run struct {
	group group
	bits  []int
	tape  []int // what was handed in: only read
	used  int   // outcomes that were taken from the tape
}

func start(c api.Circuit, in int, tape []int) *run {
	return &run{group: basis(c.Qubits, in), bits: make([]int, c.Bits), tape: tape}
}

// do does an operation, if its conditions hold, and is the code of its fault, or 0.
func (r *run) do(op api.Op) int {
	switch {
	case !r.meets(op.If):
		return 0
	case op.Kind == api.Measure || op.Kind == api.Reset:
		return r.look(op)
	}
	r.group.pass(pauli.GateOf(op))
	return 0
}

// meets: do all of the conditions hold?
func (r *run) meets(conditions []int) bool {
	return !slices.ContainsFunc(conditions, func(term int) bool {
		if term < 0 {
			return r.bits[-term-1] == 1
		}
		return r.bits[term-1] == 0
	})
}

// look does an operation that asks for an outcome, and is the code of its fault, or 0.
func (r *run) look(op api.Op) int {
	if r.used == len(r.tape) {
		return api.ErrTape
	}
	outcome := r.tape[r.used]
	if outcome != 0 && outcome != 1 || !r.group.settle(op.Q, outcome) {
		return api.ErrOutcome
	}
	r.used++
	switch {
	case op.Kind == api.Measure:
		r.bits[op.Bit] = outcome
	case outcome == 1:
		r.group.pass(pauli.GateOf(api.Op{Kind: api.X, Q: op.Q}))
	}
	return 0
}
