package synth

import (
	"iter"

	"qloom/api"
	"qloom/ring"
)

// way is a way from a matrix to the one of no gates: the gates so far, and what they
// have made of the rows. It is not too long for a circuit: at each depth of a row there
// are two pairs at most of its four entries, and one of three or two; a depth's pairs
// make the other rows deeper by two at most. With 24 at first that comes to 48 Hs, then,
// from 72 and from 216 on, as many; each has at most seven gates around it.
type way struct {
	rows   matrix
	qubits int
	ops    []api.Op
}

// wayHome is a circuit that undoes what a matrix does, row by row. The rows that are
// home have a 1 where they belong, so that those behind them, which are upright to them,
// have a 0 there: no gate on their way changes what is home.
func wayHome(rows matrix) api.Circuit {
	w := &way{rows: rows, qubits: len(rows) / 2}
	for x := range rows {
		for low, high := range w.deepPairs(x) {
			w.lift(x, low, high)
		}
		w.settle(x)
	}
	return api.Circuit{Qubits: w.qubits, Ops: w.ops}
}

// depth is how often an entry is to be multiplied by 1 + z^2 till it is a sum over 1.
// By the root of two, by which ring counts, some pairs would not become less deep: it is
// the square of 1 + z^2, but for a factor that divides 1.
func depth(entry ring.Num) int {
	return entry.Depth() + entry.Add(entry.Turn(2)).Depth()
}

// deepPairs yields the places of two of the deepest entries of a row, the lower one
// first, as long as some are deep: till gates have made all of them sums over 1.
func (w *way) deepPairs(x int) iter.Seq2[int, int] {
	return func(yield func(int, int) bool) {
		for {
			deepest := w.deepest(x)
			if len(deepest) == 0 || !yield(deepest[0], deepest[1]) {
				return
			}
		}
	}
}

// deepest are the places of the deepest entries of a row; none, if none is deep. Their
// number is even: modulo 1 + z^2 each of them adds 1 to the row's norm, which is 0 when
// it is brought over 1.
func (w *way) deepest(x int) []int {
	var places []int
	most := 1
	for y, entry := range w.rows[x] {
		switch d := depth(entry); {
		case d > most:
			most, places = d, []int{y}
		case d == most:
			places = append(places, y)
		}
	}
	return places
}

// lift makes two of the deepest entries of a row less deep: their sum and their
// difference, over the root of two, are so when one of them is turned by the right
// number of eighths. One of four is right: modulo (1 + z^2)^3 each number that 1 + z^2
// does not divide is a root.
func (w *way) lift(x, low, high int) {
	row := w.rows[x]
	for k := 0; k < 8; k += 2 {
		sum, difference := mixed(row[low], row[high].Turn(k))
		if max(depth(sum), depth(difference)) < depth(row[low]) {
			w.turn(high, k)
			w.mix(low, high)
			return
		}
	}
}

// mixed is what H makes of the amplitudes of two basis states.
func mixed(a, b ring.Num) (sum, difference ring.Num) {
	return a.Add(b).Half(), a.Sub(b).Half()
}

// settle brings a row home in which nothing is deep: one entry is a root, the others
// are 0.
func (w *way) settle(x int) {
	for y, entry := range w.rows[x] {
		for k := 0; k < 16; k += 2 {
			if entry.Turn(k).Same(ring.Root(0)) {
				w.turn(y, k)
				w.exchange(x, y)
				return
			}
		}
	}
}
