package state

import (
	"iter"

	"qloom/api"
	"qloom/ring"
)

// wave has the amplitudes of all basis states; one that is 0 is nil. The
// numbers are never written again, so that the branches of a run share them.
type wave []*ring.Num

// basis is the wave of a basis state of that many qubits.
func basis(qubits, x int) wave {
	w := make(wave, 1<<qubits)
	w[x] = kept(ring.Root(0))
	return w
}

// kept is a number as a wave has it.
func kept(n ring.Num) *ring.Num {
	if n.Zero() {
		return nil
	}
	return &n
}

// at is the amplitude of a basis state.
func (w wave) at(x int) ring.Num {
	if w[x] == nil {
		return ring.Num{}
	}
	return *w[x]
}

// set is a set of qubits: bit q says whether qubit q is in it.
func set(qubits ...int) int {
	out := 0
	for _, q := range qubits {
		out |= 1 << q
	}
	return out
}

// states ranges, in their order, over the basis states in which the qubits of
// ones are 1 and those of noughts are 0.
func (w wave) states(ones, noughts int) iter.Seq[int] {
	fixed := ones | noughts
	return func(yield func(int) bool) {
		// Where all qubits that stay as they are count as 1, adding 1 carries past them.
		for x := ones; x < len(w); x = ((x|fixed)+1)&^fixed | ones {
			if !yield(x) {
				return
			}
		}
	}
}

// side ranges over the basis states in which the qubits of a set are all 0 or all 1.
func (w wave) side(qubits, value int) iter.Seq[int] {
	if value == 1 {
		return w.states(qubits, 0)
	}
	return w.states(0, qubits)
}

// do does a gate.
func (w wave) do(op api.Op) {
	controls, q := set(op.Ctl...), set(op.Q)
	switch op.Kind {
	case api.Phase:
		w.turn(0, op.K)
	case api.X:
		w.exchange(controls, q)
	case api.H:
		w.mix(controls, q)
	case api.P:
		w.turn(controls|q, op.K)
	}
}

// turn turns the amplitudes by so many sixteenths where the qubits of ones are 1.
func (w wave) turn(ones, sixteenths int) {
	for x := range w.states(ones, 0) {
		if w[x] != nil {
			w[x] = kept(w[x].Turn(sixteenths))
		}
	}
}

// exchange exchanges q's 0 and 1 where the controls are 1.
func (w wave) exchange(controls, q int) {
	for x := range w.states(controls, q) {
		w[x], w[x|q] = w[x|q], w[x]
	}
}

// mix does the Hadamard gate to q where the controls are 1.
func (w wave) mix(controls, q int) {
	for x := range w.states(controls, q) {
		if w[x] == nil && w[x|q] == nil {
			continue
		}
		a, b := w.at(x), w.at(x|q)
		w[x], w[x|q] = kept(a.Add(b).Half()), kept(a.Sub(b).Half())
	}
}

// has: is an amplitude not 0 where q has that value?
func (w wave) has(q, value int) bool {
	for x := range w.side(q, value) {
		if w[x] != nil {
			return true
		}
	}
	return false
}

// drop makes the amplitudes 0 where q has that value.
func (w wave) drop(q, value int) {
	for x := range w.side(q, value) {
		w[x] = nil
	}
}

// norm is the sum of the norms of all amplitudes.
func (w wave) norm() ring.Num {
	var out ring.Num
	for _, a := range w {
		if a != nil {
			out = out.Add(a.Norm())
		}
	}
	return out
}

// texts are all amplitudes as they are written.
func (w wave) texts() []string {
	out := make([]string, len(w))
	for x := range w {
		out[x] = w.at(x).Text()
	}
	return out
}
