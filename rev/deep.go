package rev

import (
	"slices"

	"qloom/api"
)

// unit is the 1 in a sum of qubits, which is kept as a set of them: it stands
// behind all qubits that can be.
const unit = 1 << api.MaxQubits

// workOut are Xs that add an expression to qubit n, and leave the spare qubits
// behind it 0. Whatever is no product is a sum of qubits, and costs none.
func workOut(e api.Expr, n int) []api.Op {
	var ops []api.Op
	spare := n
	m := meaning[int]{
		variable: func(v int) int { return setOf(v) },
		one:      unit,
		sum:      sumOfSets,
		product: func(a, b int) int {
			spare++
			ops = append(ops, addProduct(spare, a, b)...)
			return setOf(spare)
		},
	}
	result := m.of(e)
	return slices.Concat(ops, addProduct(n, result, unit), undone(ops))
}

// sumOfSets has what is in an odd number of the sets: what is added twice is gone.
func sumOfSets(sets ...int) int {
	out := 0
	for _, set := range sets {
		out ^= set
	}
	return out
}

// addProduct are Xs that add the product of two sums of qubits to qubit q.
func addProduct(q, a, b int) []api.Op {
	var ops []api.Op
	for _, pair := range multiply(a, b) {
		ops = append(ops, flip(q, members(pair)...))
	}
	return ops
}

// multiply are the products of at most two qubits, as sets, of which the
// product of two sums of qubits is the sum.
func multiply(a, b int) []int {
	var out []int
	for _, i := range members(a) {
		for _, j := range members(b) {
			pair := setOf(i, j) &^ unit
			if at := slices.Index(out, pair); at >= 0 {
				out = slices.Delete(out, at, at+1)
			} else {
				out = append(out, pair)
			}
		}
	}
	return out
}
