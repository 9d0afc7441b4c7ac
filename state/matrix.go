package state

import (
	"qloom/ring"
	"qloom/wave"
)

// matrix has as many columns as rows.
type matrix [][]ring.Num

func square(size int) matrix {
	out := make(matrix, size)
	for i := range out {
		out[i] = make([]ring.Num, size)
	}
	return out
}

// reduced is what a wave tells of the qubits in keep.
func reduced(w wave.Wave, keep []int) matrix {
	places := among(keep)
	out := square(len(places))
	for rest := range w.States(0, wave.Set(keep...)) {
		for i, x := range places {
			for j, y := range places {
				a, b := w[rest|x], w[rest|y]
				if a != nil && b != nil {
					out[i][j] = out[i][j].Add(a.Mul(b.Conj()))
				}
			}
		}
	}
	return out
}

// among are the basis states of the kept qubits, as basis states of all in
// which the others are 0.
func among(keep []int) []int {
	out := []int{0}
	for _, q := range keep {
		for _, x := range out {
			out = append(out, x|wave.Set(q))
		}
	}
	return out
}

// sum is the sum of matrices of one size, of which there is one at least.
func sum(parts []matrix) matrix {
	out := square(len(parts[0]))
	for _, part := range parts {
		for i, row := range part {
			for j, entry := range row {
				out[i][j] = out[i][j].Add(entry)
			}
		}
	}
	return out
}

func (m matrix) texts() [][]string {
	out := make([][]string, len(m))
	for i, row := range m {
		for _, entry := range row {
			out[i] = append(out[i], entry.Text())
		}
	}
	return out
}
