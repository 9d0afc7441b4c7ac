package state_test

import (
	"slices"
	"testing"

	"qloom/api"
	"qloom/circ"
)

// A circuit with its Inverse behind it leaves every basis state as it was.
func TestInverseUndoes(t *testing.T) {
	seed := noise(12)
	for i := range 30 {
		c := seed.pure(1+i%5, 25)
		back, f := circ.Inverse(c)
		equal(t, "Inverse", f, none)
		for in := range 1 << c.Qubits {
			equal(t, short(c), shot(t, then(t, c, back), in).Amps, basis(1<<c.Qubits, in))
			equal(t, short(c), shot(t, then(t, back, c), in).Amps, basis(1<<c.Qubits, in))
		}
	}
}

// Control does nothing where its qubit is 0, and all where it is 1.
func TestControlDoesAllOrNothing(t *testing.T) {
	seed := noise(13)
	for i := range 30 {
		n := 2 + i%4
		q := seed.below(n)
		c := api.Circuit{Qubits: n}
		others := slices.DeleteFunc(all(n), func(other int) bool { return other == q })
		for range 20 {
			c.Ops = append(c.Ops, seed.gate(others))
		}
		controlled, f := circ.Control(c, q)
		equal(t, "Control", f, none)
		for in := range 1 << n {
			want := basis(1<<n, in)
			if qubit(in, q) == 1 {
				want = shot(t, c, in).Amps
			}
			equal(t, short(controlled), shot(t, controlled, in).Amps, want)
		}
	}
}

// What is done to other qubits than those in keep changes nothing of Reduced.
func TestOthersChangeNothingOfReduced(t *testing.T) {
	seed := noise(14)
	for i := range 60 {
		n := 2 + i%4
		order := seed.order(n)
		kept := 1 + seed.below(min(n-1, 4))
		keep, others := order[:kept], order[kept:]
		c := seed.circuit(n, 20, 4)
		before := reduced(t, c, 1, keep...)
		c.Ops = append(c.Ops, seed.ops(others, c.Bits, 12, 4)...)
		equal(t, short(c), reduced(t, c, 1, keep...), before)
	}
}
