package state_test

import (
	"testing"

	"qloom/api"
	"qloom/circ"
	"qloom/ring"
	"qloom/state"
)

// matrixOf is Matrix' where nothing is refused.
func matrixOf(t *testing.T, c api.Circuit) [][]string {
	t.Helper()
	out, f := state.Matrix(c)
	if f != none {
		t.Errorf("Matrix of %s: %v", short(c), f)
	}
	return out
}

func TestMatrix(t *testing.T) {
	i := "0,0,0,0,1"
	for _, c := range []struct {
		lines []string
		want  [][]string
	}{
		{[]string{"qubits 1 bits 0"}, [][]string{{"1", "0"}, {"0", "1"}}},
		{[]string{"qubits 1 bits 3", "h 0"}, [][]string{{rt, rt}, {rt, minus}}},
		// Row x is what a run from x leaves.
		{[]string{"qubits 1 bits 0", "x 0", "p 4 0"}, [][]string{{"0", i}, {"1", "0"}}},
		{[]string{"qubits 1 bits 0", "p 4 0", "x 0"}, [][]string{{"0", "1"}, {i, "0"}}},
		{[]string{"qubits 2 bits 0", "x 0", "x 1 on 0"}, [][]string{{"0", "0", "0", "1"}, {"1", "0", "0", "0"}, {"0", "1", "0", "0"}, {"0", "0", "1", "0"}}},
	} {
		equal(t, short(c.lines), matrixOf(t, circuit(t, c.lines...)), c.want)
	}
}

func TestMatrixHasTheRuns(t *testing.T) {
	seed := noise(8)
	for i := range 40 {
		c := seed.pure(1+i%6, 20)
		got := matrixOf(t, c)
		equal(t, "rows", len(got), 1<<c.Qubits)
		for x, row := range got {
			amps, _, _, _ := modelRun(c, x, nil)
			equal(t, short(c), row, modelTexts(amps))
			equal(t, short(c), row, shot(t, c, x).Amps)
		}
	}
}

// The rows are of norm 1, and upright to each other.
func TestMatrixIsUnitary(t *testing.T) {
	seed := noise(9)
	for i := range 12 {
		rows := matrixOf(t, seed.pure(1+i%4, 60))
		for x, row := range rows {
			for y, other := range rows {
				var sum ring.Num
				for j := range row {
					sum = sum.Add(number(t, row[j]).Mul(number(t, other[j]).Conj()))
				}
				want := "0"
				if x == y {
					want = "1"
				}
				equal(t, "rows", sum.Text(), want)
			}
		}
	}
}

func TestFaultsOfMatrix(t *testing.T) {
	for n := 1; n <= api.MaxQubits; n++ {
		want := none
		if n > 6 {
			want = fault(api.ErrMany, 0)
		}
		for _, ops := range [][]api.Op{nil, {{Kind: api.H, Q: n - 1}}} {
			rows, f := state.Matrix(api.Circuit{Qubits: n, Ops: ops})
			equal(t, "so many qubits", f, want)
			if n > 6 {
				equal(t, "with a fault", len(rows), 0)
			} else {
				equal(t, "rows", len(rows), 1<<n)
			}
		}
	}
	for _, lines := range [][]string{
		{"qubits 2 bits 1", "x 0", "measure 0 to 0"}, {"qubits 2 bits 1", "x 0", "reset 0"}, {"qubits 2 bits 1", "x 0", "h 0 if 0"},
		{"qubits 7 bits 1", "x 0", "measure 0 to 0"}, {"qubits 12 bits 1", "x 0", "phase 1 if !0"},
	} {
		rows, f := state.Matrix(circuit(t, lines...))
		equal(t, short(lines), f, fault(api.ErrUnitary, 1))
		equal(t, "with a fault", len(rows), 0)
	}
	for _, c := range badPool() {
		rows, f := state.Matrix(c)
		equal(t, short(c), f, circ.Pure(c))
		if f != none {
			equal(t, "with a fault", len(rows), 0)
		}
	}
	_, f := state.Matrix(api.Circuit{Qubits: 7, Ops: []api.Op{{Kind: api.X}, {Kind: 9}}})
	equal(t, "no kind, and too many qubits", f, fault(api.ErrKind, 1))
	_, f = state.Matrix(api.Circuit{Qubits: 13})
	equal(t, "no number of qubits", f, fault(api.ErrQubits, 0))
}
