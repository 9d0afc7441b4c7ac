package code

import (
	"iter"

	"qloom/api"
	"qloom/pauli"
)

// letters are those of an error on the first qubit, in their order, but for I.
var letters = [3]pauli.Pauli{{X: 1}, {X: 1, Z: 1}, {Z: 1}}

// marks is a syndrome: bit i is that of generator i.
type marks uint16

// shown is the syndrome of an error.
func (f frame) shown(p pauli.Pauli) marks {
	var m marks
	for i, gen := range f.gens {
		if !p.Commutes(gen) {
			m |= 1 << i
		}
	}
	return m
}

// list is a syndrome of so many generators as it is told.
func (m marks) list(gens int) []int {
	var out []int
	for i := range gens {
		out = append(out, int(m>>i&1))
	}
	return out
}

// readMarks is a syndrome of so many generators, or its first fault.
func readMarks(list []int, gens int) (marks, api.Fault) {
	if len(list) != gens {
		return 0, api.Fault{Code: api.ErrSize}
	}
	var m marks
	for at, bit := range list {
		if bit != 0 && bit != 1 {
			return 0, api.Fault{Code: api.ErrOutcome, At: at}
		}
		m |= marks(bit) << at
	}
	return m, api.Fault{}
}

// errors are all errors: those of less weight first, and those of one weight in the
// order of their letters, where qubit 0 counts most.
func (f frame) errors() iter.Seq[pauli.Pauli] {
	return func(yield func(pauli.Pauli) bool) {
		for weight := range f.qubits + 1 {
			if !f.spread(pauli.Pauli{}, 0, weight, yield) {
				return
			}
		}
	}
}

// spread yields the errors that have p's letters ahead of qubit q, and letters other
// than I on so many qubits from there on; false, if no more are wanted.
func (f frame) spread(p pauli.Pauli, q, weight int, yield func(pauli.Pauli) bool) bool {
	if q == f.qubits {
		return yield(p)
	}
	if weight < f.qubits-q && !f.spread(p, q+1, weight, yield) {
		return false
	}
	if weight == 0 {
		return true
	}
	for _, letter := range letters {
		next := pauli.Pauli{X: p.X | letter.X<<q, Z: p.Z | letter.Z<<q}
		if !f.spread(next, q+1, weight-1, yield) {
			return false
		}
	}
	return true
}

// first is the first error of which something holds; the one that does nothing, if there
// is none.
func (f frame) first(holds func(pauli.Pauli) bool) pauli.Pauli {
	for p := range f.errors() {
		if holds(p) {
			return p
		}
	}
	return pauli.Pauli{}
}

// mends has for each syndrome the first error that has it.
func (f frame) mends() map[marks]pauli.Pauli {
	out := map[marks]pauli.Pauli{}
	for p := range f.errors() {
		if _, known := out[f.shown(p)]; !known {
			out[f.shown(p)] = p
		}
	}
	return out
}

// unmended is for each weight how many errors are not mended.
func (f frame) unmended() []int {
	mends := f.mends()
	out := make([]int, f.qubits+1)
	for p := range f.errors() {
		if !f.group.has(p.Letters(mends[f.shown(p)])) {
			out[p.Weight()]++
		}
	}
	return out
}
