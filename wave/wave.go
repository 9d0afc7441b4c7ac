// Package wave has the amplitudes of all basis states, and what operations make
// of them: see doc/04-state.md.
package wave

import (
	"iter"

	"qloom/api"
	"qloom/ring"
)

// Wave has the amplitudes of all basis states; one that is 0 is nil. The
// numbers are never written again, so that copies of a wave share them.
type Wave []*ring.Num

// Basis is the wave of a basis state of that many qubits.
func Basis(qubits, x int) Wave {
	w := make(Wave, 1<<qubits)
	w[x] = kept(ring.Root(0))
	return w
}

// kept is a number as a wave has it.
func kept(n ring.Num) *ring.Num {
	if n.Zero() {
		return nil
	}
	return &n
}

// at is the amplitude of a basis state.
func (w Wave) at(x int) ring.Num {
	if w[x] == nil {
		return ring.Num{}
	}
	return *w[x]
}

// Set is a set of qubits: bit q says whether qubit q is in it.
func Set(qubits ...int) int {
	out := 0
	for _, q := range qubits {
		out |= 1 << q
	}
	return out
}

// States ranges, in their order, over the basis states in which the qubits of
// ones are 1 and those of noughts are 0.
func (w Wave) States(ones, noughts int) iter.Seq[int] {
	fixed := ones | noughts
	return func(yield func(int) bool) {
		// Where all qubits that stay as they are count as 1, adding 1 carries past them.
		for x := ones; x < len(w); x = ((x|fixed)+1)&^fixed | ones {
			if !yield(x) {
				return
			}
		}
	}
}

// side ranges over the basis states in which the qubits of a set are all 0 or all 1.
func (w Wave) side(qubits, value int) iter.Seq[int] {
	if value == 1 {
		return w.States(qubits, 0)
	}
	return w.States(0, qubits)
}

// Do does a gate, whatever its conditions are.
func (w Wave) Do(op api.Op) {
	controls, q := Set(op.Ctl...), Set(op.Q)
	switch op.Kind {
	case api.Phase:
		w.turn(0, op.K)
	case api.X:
		w.exchange(controls, q)
	case api.H:
		w.mix(controls, q)
	case api.P:
		w.turn(controls|q, op.K)
	}
}

// turn turns the amplitudes by so many sixteenths where the qubits of ones are 1.
func (w Wave) turn(ones, sixteenths int) {
	for x := range w.States(ones, 0) {
		if w[x] != nil {
			w[x] = kept(w[x].Turn(sixteenths))
		}
	}
}

// exchange exchanges q's 0 and 1 where the controls are 1.
func (w Wave) exchange(controls, q int) {
	for x := range w.States(controls, q) {
		w[x], w[x|q] = w[x|q], w[x]
	}
}

// mix does the Hadamard gate to q where the controls are 1.
func (w Wave) mix(controls, q int) {
	for x := range w.States(controls, q) {
		if w[x] == nil && w[x|q] == nil {
			continue
		}
		a, b := w.at(x), w.at(x|q)
		w[x], w[x|q] = kept(a.Add(b).Half()), kept(a.Sub(b).Half())
	}
}

// Can: can that outcome come of qubit q?
func (w Wave) Can(q, outcome int) bool {
	for x := range w.side(Set(q), outcome) {
		if w[x] != nil {
			return true
		}
	}
	return false
}

// Take does a measurement or a reset with that outcome, whatever its conditions are.
func (w Wave) Take(op api.Op, outcome int) {
	q := Set(op.Q)
	w.drop(q, 1-outcome)
	if op.Kind == api.Reset && outcome == 1 {
		w.exchange(0, q)
	}
}

// drop makes the amplitudes 0 where q has that value.
func (w Wave) drop(q, value int) {
	for x := range w.side(q, value) {
		w[x] = nil
	}
}

// Norm is the sum of the norms of all amplitudes.
func (w Wave) Norm() ring.Num {
	var out ring.Num
	for _, a := range w {
		if a != nil {
			out = out.Add(a.Norm())
		}
	}
	return out
}

// Texts are all amplitudes as they are written.
func (w Wave) Texts() []string {
	out := make([]string, len(w))
	for x := range w {
		out[x] = w.at(x).Text()
	}
	return out
}
