package fold_test

import (
	"slices"
	"testing"

	"qloom/api"
)

// holdUndone holds Slim to leaving nothing of a circuit with its Inverse behind it.
func holdUndone(t *testing.T, c api.Circuit) {
	t.Helper()
	both := undone(t, c)
	equal(t, short(both), formed(t, both), api.Circuit{Qubits: c.Qubits, Bits: c.Bits})
}

// All short circuits of one and two qubits.
func TestAllShortCircuitsUndone(t *testing.T) {
	t.Parallel()
	one := []api.Op{{Kind: api.X}, {Kind: api.H}, {Kind: api.P, K: 1}, {Kind: api.P, K: 8}, {Kind: api.P}, {Kind: api.Phase, K: 3}}
	two := slices.Concat(one[:3], []api.Op{{Kind: api.X, Q: 1, Ctl: []int{0}}, {Kind: api.X, Ctl: []int{1}}, {Kind: api.P, K: 15}, {Kind: api.P, K: 2, Q: 1}, {Kind: api.H, Q: 1}})
	for length := range 6 {
		rows(one, length, func(row []api.Op) { holdUndone(t, api.Circuit{Qubits: 1, Bits: length, Ops: row}) })
	}
	for length := range 5 {
		rows(two, length, func(row []api.Op) { holdUndone(t, api.Circuit{Qubits: 2, Ops: row}) })
	}
}

// Within such a circuit turns may be joined, Hs may meet, forms may come again.
func TestManyCircuitsUndone(t *testing.T) {
	t.Parallel()
	for i := range 4000 {
		n := noise(i)
		holdUndone(t, n.plain(1+n.below(12), n.below(120), n.below(6)))
	}
	for i := range 2000 {
		n := noise(i)
		qubits := 1 + n.below(4)
		few := n.plain(qubits, 2+n.below(5), 3).Ops
		c := api.Circuit{Qubits: qubits}
		for range n.below(60) {
			c.Ops = append(c.Ops, few[n.below(len(few))])
		}
		holdUndone(t, c)
	}
}

// As long as such circuits can be.
func TestLongCircuitsUndone(t *testing.T) {
	t.Parallel()
	for qubits := 1; qubits <= api.MaxQubits; qubits++ {
		for forks := range 4 {
			n := noise(qubits)
			holdUndone(t, n.plain(qubits, api.MaxOps/2, forks))
		}
	}
}

// A circuit that is undone twice, and one that is undone ahead of another.
func TestCircuitsUndoneBesideOthers(t *testing.T) {
	t.Parallel()
	for i := range 400 {
		n := noise(i)
		qubits := 1 + n.below(6)
		inner, outer := n.plain(qubits, n.below(40), 2), n.plain(qubits, n.below(40), 2)
		holdUndone(t, undone(t, inner))
		holdUndone(t, then(t, undone(t, inner), outer))
		equal(t, "nothing ahead", slim(t, then(t, undone(t, inner), outer)), slim(t, outer))
	}
}

// So it is with controls, too, though it is not promised.
func TestCircuitsWithControlsUndone(t *testing.T) {
	t.Parallel()
	for i := range 1000 {
		n := noise(i)
		qubits := 1 + n.below(12)
		holdUndone(t, n.circuit(qubits, n.below(100), qubits))
	}
	n := noise(1)
	holdUndone(t, n.circuit(api.MaxQubits, api.MaxOps/2, 11))
}
