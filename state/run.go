package state

import (
	"slices"

	"qloom/api"
	"qloom/wave"
)

// run is a run of a circuit that is under way.
type run struct {
	ops  []api.Op // the circuit's own: only read
	at   int      // the operation that comes next
	wave wave.Wave
	bits []int
	tape []int // the outcomes that were taken
}

func start(c api.Circuit, in int) *run {
	return &run{ops: c.Ops, wave: wave.Basis(c.Qubits, in), bits: make([]int, c.Bits)}
}

// clone is a run that stands where r does, and goes on by itself.
func (r *run) clone() *run {
	return &run{ops: r.ops, at: r.at, wave: slices.Clone(r.wave), bits: slices.Clone(r.bits), tape: slices.Clone(r.tape)}
}

// asks does operations up to the next one that asks for an outcome: is there one?
func (r *run) asks() bool {
	for ; r.at < len(r.ops); r.at++ {
		op := r.ops[r.at]
		if !r.meets(op.If) {
			continue
		}
		if op.Kind == api.Measure || op.Kind == api.Reset {
			return true
		}
		r.wave.Do(op)
	}
	return false
}

// meets: do all of the conditions hold?
func (r *run) meets(conditions []int) bool {
	for _, term := range conditions {
		bit, want := term-1, 1
		if term < 0 {
			bit, want = -term-1, 0
		}
		if r.bits[bit] != want {
			return false
		}
	}
	return true
}

// can: can the outcome that is asked for be this one?
func (r *run) can(outcome int) bool { return r.wave.Can(r.ops[r.at].Q, outcome) }

// take does the operation that asks for an outcome, with this one.
func (r *run) take(outcome int) {
	op := r.ops[r.at]
	r.wave.Take(op, outcome)
	if op.Kind == api.Measure {
		r.bits[op.Bit] = outcome
	}
	r.tape = append(r.tape, outcome)
	r.at++
}
