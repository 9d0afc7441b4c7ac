package tableau_test

import (
	"fmt"
	"testing"

	"qloom/api"
)

// Behind Again's circuit each Pauli is what it is behind the circuit.
func TestAgainHasTheSameImages(t *testing.T) {
	twin := circuit(t, "qubits 2 bits 0", "h 0", "x 1 on 0")
	d := holds(t, twin)
	for _, p := range paulis(2) {
		equal(t, p, image(t, d, p), image(t, twin, p))
	}
}

// Without operations, and with some that do nothing, there is nothing to be done.
func TestAgainOfNothing(t *testing.T) {
	for qubits := 1; qubits <= api.MaxQubits; qubits++ {
		for bits := range api.MaxBits + 1 {
			c := api.Circuit{Qubits: qubits, Bits: bits}
			equal(t, "nothing", formed(t, c), c)
			h := api.Op{Kind: api.H, Q: qubits - 1}
			c.Ops = []api.Op{h, {Kind: api.P, Q: qubits - 1}, h, {Kind: api.Phase, K: 3}}
			equal(t, "nothing", formed(t, c), api.Circuit{Qubits: qubits, Bits: bits})
		}
	}
}

// Each gate alone, and each two gates of two qubits.
func TestAgainOfFewGates(t *testing.T) {
	t.Parallel()
	for qubits := 1; qubits <= 3; qubits++ {
		for _, op := range normalGates(qubits) {
			holds(t, api.Circuit{Qubits: qubits, Ops: []api.Op{op}})
		}
	}
	rows(normalGates(2), 2, func(row []api.Op) { holds(t, api.Circuit{Qubits: 2, Ops: row}) })
}

// All short circuits of one qubit.
func TestAgainOfOneQubit(t *testing.T) {
	t.Parallel()
	ops := circuit(t, "qubits 1 bits 0", "phase 3", "x 0", "h 0", "p 4 0", "p 8 0", "p 12 0").Ops
	for length := range 5 {
		rows(ops, length, func(row []api.Op) { holds(t, api.Circuit{Qubits: 1, Ops: row}) })
	}
}

// known are the images of the Xs and Zs, by which a circuit of gates is known but for a turn.
func known(t *testing.T, c api.Circuit) string {
	t.Helper()
	var out []string
	for q := range c.Qubits {
		out = append(out, image(t, c, at(c.Qubits, q, "X")), image(t, c, at(c.Qubits, q, "Z")))
	}
	return fmt.Sprint(out)
}

// All that gates can do to two qubits: 11520 things, but for a turn. To one: 24.
func TestAgainOfAllThatCanBeDone(t *testing.T) {
	t.Parallel()
	for qubits, want := range map[int]int{1: 24, 2: 11520} {
		ops := circuit(t, "qubits 2 bits 0", "h 0", "p 4 0", "h 1", "p 4 1", "x 1 on 0").Ops[:[]int{0, 2, 5}[qubits]]
		waiting := []api.Circuit{{Qubits: qubits}}
		seen := map[string]bool{known(t, waiting[0]): true}
		for ; len(waiting) > 0; waiting = waiting[1:] {
			holds(t, waiting[0])
			for _, op := range ops {
				c := then(t, waiting[0], api.Circuit{Qubits: qubits, Ops: []api.Op{op}})
				if key := known(t, c); !seen[key] {
					seen[key] = true
					waiting = append(waiting, c)
				}
			}
		}
		equal(t, fmt.Sprint(qubits), len(seen), want)
	}
}

// The model's prime: circuits leave the same there just where they do so exactly.
func TestTheModelOfAmplitudes(t *testing.T) {
	equal(t, "half a turn", turnedBy(1, 8), prime-1)
	equal(t, "a whole turn", turnedBy(1, 16), 1)
	different := 0
	for i := range 300 {
		n := noise(i)
		a, b := n.gates(2, n.below(5)), n.gates(2, n.below(5))
		if i%2 == 0 {
			b = then(t, a, circuit(t, "qubits 2 bits 0", "h 0", "h 0", "phase 5"))
		}
		exactly := false
		for k := range 16 {
			exactly = exactly || turns{}.alike(t, matrix(t, a), matrix(t, b), k)
		}
		equal(t, short(a), sameButForATurn(a, b), exactly)
		if !exactly {
			different++
		}
	}
	equal(t, "some are different", different > 50, true)
}

// Circuits without order.
func TestAgainOfManyCircuits(t *testing.T) {
	t.Parallel()
	for i := range 300 {
		n := noise(i)
		c := n.gates(1+n.below(4), n.below(60))
		c.Bits = n.below(13)
		holds(t, c)
	}
	for i := range 400 {
		n := noise(i)
		holdsModulo(t, n.gates(1+n.below(8), n.below(200)))
	}
}

// Of as many qubits and operations as there may be.
func TestAgainOfTwelveQubits(t *testing.T) {
	t.Parallel()
	for i := range 6 {
		n := noise(i)
		holdsModulo(t, n.gates(12, 500))
	}
	for i := range 20 {
		n := noise(i)
		c := n.gates(12, api.MaxOps)
		equal(t, "images", known(t, formed(t, c)), known(t, c))
	}
	n := noise(7)
	holdsModulo(t, n.gates(12, api.MaxOps))
}

// Made anew once more it still does the same.
func TestAgainOfAgain(t *testing.T) {
	for i := range 100 {
		n := noise(i)
		c := n.gates(1+i%12, 300)
		equal(t, "images", known(t, formed(t, again(t, c))), known(t, c))
	}
}
