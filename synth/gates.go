package synth

import (
	"math/bits"
	"slices"

	"qloom/api"
)

// turn turns a basis state by so many sixteenths.
func (w *way) turn(x, sixteenths int) {
	if sixteenths == 0 {
		return
	}
	for _, row := range w.rows {
		row[x] = row[x].Turn(sixteenths)
	}
	w.where(x, api.Op{Kind: api.P, K: sixteenths})
}

// mix does an H between two basis states, of which the lower one gets the sum.
func (w *way) mix(low, high int) {
	for _, row := range w.rows {
		row[low], row[high] = mixed(row[low], row[high])
	}
	w.between(low, high, api.H)
}

// exchange exchanges two basis states, if they are two.
func (w *way) exchange(low, high int) {
	if low == high {
		return
	}
	for _, row := range w.rows {
		row[low], row[high] = row[high], row[low]
	}
	w.between(low, high, api.X)
}

// between does a gate between two basis states. The highest qubit in which they differ
// is 1 in the higher one: flipping the others there brings it beside the lower one.
func (w *way) between(low, high, kind int) {
	q := bits.Len(uint(low^high)) - 1
	var flips []api.Op
	for other := range q {
		if (low^high)>>other&1 == 1 {
			flips = append(flips, api.Op{Kind: api.X, Q: other, Ctl: []int{q}})
		}
	}
	w.inside(flips, func() { w.where(low|1<<q, api.Op{Kind: kind, Q: q}) })
}

// where does a gate only where the other qubits are what they are in a basis state, and
// with its qubit's 0 and 1 exchanged, if it is 0 there.
func (w *way) where(x int, op api.Op) {
	var flips []api.Op
	for q := range w.qubits {
		if x>>q&1 == 0 {
			flips = append(flips, api.Op{Kind: api.X, Q: q})
		}
		if q != op.Q {
			op.Ctl = append(op.Ctl, q)
		}
	}
	w.inside(flips, func() { w.ops = append(w.ops, op) })
}

// inside does something between Xs and the same Xs in the opposite order.
func (w *way) inside(flips []api.Op, do func()) {
	w.ops = append(w.ops, flips...)
	do()
	slices.Reverse(flips)
	w.ops = append(w.ops, flips...)
}
