package state_test

import (
	"math"
	"slices"
	"testing"

	"qloom/api"
	"qloom/ring"
	"qloom/state"
)

func TestReduced(t *testing.T) {
	for _, c := range []struct {
		lines []string
		keep  []int
		want  [][]string
	}{
		{[]string{"qubits 1 bits 0"}, nil, [][]string{{"1"}}},
		{[]string{"qubits 3 bits 1", "h 0", "measure 0 to 0", "reset 0"}, nil, [][]string{{"1"}}},
		{[]string{"qubits 1 bits 0"}, []int{0}, [][]string{{"1", "0"}, {"0", "0"}}},
		{[]string{"qubits 1 bits 0", "h 0"}, []int{0}, [][]string{{"1/1", "1/1"}, {"1/1", "1/1"}}},
		// The mirror is that of the column's amplitude.
		{[]string{"qubits 1 bits 0", "h 0", "p 4 0"}, []int{0}, [][]string{{"1/1", "0,0,0,0,-1/1"}, {"0,0,0,0,1/1", "1/1"}}},
		{[]string{"qubits 1 bits 0", "h 0", "p 3 0"}, []int{0}, [][]string{{"1/1", "0,0,0,0,0,-1/1"}, {"0,0,0,1/1", "1/1"}}},
		{[]string{"qubits 1 bits 1", "h 0", "measure 0 to 0"}, []int{0}, [][]string{{"1/1", "0"}, {"0", "1/1"}}},
		{[]string{"qubits 1 bits 1", "h 0", "reset 0"}, []int{0}, [][]string{{"1", "0"}, {"0", "0"}}},
		{[]string{"qubits 2 bits 0", "h 0", "x 1 on 0"}, []int{1}, [][]string{{"1/1", "0"}, {"0", "1/1"}}},
		{[]string{"qubits 2 bits 0", "x 0"}, []int{0, 1}, [][]string{{"0", "0", "0", "0"}, {"0", "1", "0", "0"}, {"0", "0", "0", "0"}, {"0", "0", "0", "0"}}},
		// keep[0] is the lowest bit.
		{[]string{"qubits 2 bits 0", "x 0"}, []int{1, 0}, [][]string{{"0", "0", "0", "0"}, {"0", "0", "0", "0"}, {"0", "0", "1", "0"}, {"0", "0", "0", "0"}}},
		{[]string{"qubits 2 bits 0", "h 1"}, []int{1, 0}, [][]string{{"1/1", "1/1", "0", "0"}, {"1/1", "1/1", "0", "0"}, {"0", "0", "0", "0"}, {"0", "0", "0", "0"}}},
	} {
		equal(t, short(c.lines), reduced(t, circuit(t, c.lines...), 0, c.keep...), c.want)
	}
}

func TestReducedIsAsTheModel(t *testing.T) {
	seed := noise(10)
	for _, c := range pool() {
		in := seed.below(1 << c.Qubits)
		keep := seed.order(c.Qubits)[:seed.below(c.Qubits+1)]
		equal(t, short(c), reduced(t, c, in, keep...), modelReduced(c, in, keep))
	}
}

// Of MaxQubits qubits four are kept; the others are in all their states.
func TestReducedOfMaxQubits(t *testing.T) {
	c := circuit(t, "qubits 12 bits 1", "h 0", "h 3", "h 5", "h 11", "x 1 on 0", "x 4 on 3", "p 1 4 on 3", "h 7 on 11", "p 3 7", "measure 5 to 0", "x 8 if 0")
	keep := []int{11, 4, 8, 7}
	equal(t, "12 qubits", reduced(t, c, 6, keep...), modelReduced(c, 6, keep))
}

// It is its own mirror, and what stands from corner to corner is 1 in sum.
func TestReducedIsItsOwnMirror(t *testing.T) {
	seed := noise(11)
	for i := range 30 {
		c := seed.circuit(2+i%4, 30, 6)
		m := reduced(t, c, 1, seed.order(c.Qubits)[:1+i%2]...)
		var trace ring.Num
		for i, row := range m {
			trace = trace.Add(number(t, row[i]))
			for j, entry := range row {
				equal(t, "mirror", number(t, entry).Conj().Text(), m[j][i])
			}
		}
		equal(t, "sum", trace.Text(), "1")
	}
}

func TestFaultsOfKeep(t *testing.T) {
	c := circuit(t, "qubits 5 bits 1", "h 0", "measure 0 to 0")
	for _, d := range []struct {
		keep []int
		want api.Fault
	}{
		{nil, none}, {[]int{}, none}, {[]int{4}, none}, {[]int{3, 1, 4, 0}, none},
		{[]int{0, 1, 2, 3, 4}, fault(api.ErrMany, 0)}, {[]int{0, 0, 0, 0, 0}, fault(api.ErrMany, 0)}, {[]int{9, 9, 9, 9, 9}, fault(api.ErrMany, 0)},
		{make([]int, 1000), fault(api.ErrMany, 0)},
		{[]int{5}, fault(api.ErrQubit, 0)}, {[]int{-1}, fault(api.ErrQubit, 0)}, {[]int{math.MinInt64}, fault(api.ErrQubit, 0)}, {[]int{math.MaxInt64}, fault(api.ErrQubit, 0)},
		{[]int{0, 0}, fault(api.ErrQubit, 1)}, {[]int{4, 1, 4}, fault(api.ErrQubit, 2)}, {[]int{0, 1, 2, 5}, fault(api.ErrQubit, 3)}, {[]int{0, 1, 2, 0}, fault(api.ErrQubit, 3)},
		{[]int{0, 7, 0, -1}, fault(api.ErrQubit, 1)}, {[]int{2, 2, 9}, fault(api.ErrQubit, 1)}, {[]int{9, 2, 2}, fault(api.ErrQubit, 0)},
	} {
		m, f := state.Reduced(c, 0, d.keep)
		equal(t, short(d.keep), f, d.want)
		if d.want != none {
			equal(t, "with a fault", len(m), 0)
		} else {
			equal(t, "rows", len(m), 1<<len(d.keep))
		}
	}
	_, f := state.Reduced(api.Circuit{Qubits: 2}, 0, []int{0, 1, 2})
	equal(t, "as there are only two", f, fault(api.ErrQubit, 2))
}

// The first fault in the document's order is told.
func TestOrderOfReducedsFaults(t *testing.T) {
	many := repeated(t, 11, "qubits 5 bits 1", "h 0", "measure 0 to 0")
	bad := copyOf(many)
	bad.Ops[7].Bit = 1
	five, wrong := []int{0, 1, 2, 3, 3}, []int{2, 0, 2}
	for i, c := range []struct {
		circuit api.Circuit
		in      int
		keep    []int
		want    api.Fault
	}{
		{bad, 32, five, fault(api.ErrBit, 7)}, {bad, 0, wrong, fault(api.ErrBit, 7)}, {bad, 0, nil, fault(api.ErrBit, 7)},
		{many, 32, five, fault(api.ErrInput, 0)}, {many, -1, wrong, fault(api.ErrInput, 0)}, {many, math.MaxInt64, nil, fault(api.ErrInput, 0)},
		{many, 31, five, fault(api.ErrMany, 0)}, {many, 31, wrong, fault(api.ErrQubit, 2)}, {many, 31, []int{1}, fault(api.ErrMany, 0)},
		{many, 31, nil, fault(api.ErrMany, 0)},
	} {
		m, f := state.Reduced(c.circuit, c.in, c.keep)
		equal(t, string(rune('a'+i)), f, c.want)
		equal(t, "with a fault", len(m), 0)
	}
	for _, c := range badPool() {
		for _, in := range []int{0, -1, 1 << 20} {
			for _, keep := range [][]int{nil, {0}, {0, 0}, five} {
				m, f := state.Reduced(c, in, keep)
				equal(t, short(c), f, modelFault(c, in, keep))
				if f != none {
					equal(t, "with a fault", len(m), 0)
				}
			}
		}
	}
}

// modelFault is Reduced's fault, of a circuit that has few tapes.
func modelFault(c api.Circuit, in int, keep []int) api.Fault {
	if f := modelCheck(c, in); f != none {
		return f
	}
	if len(keep) > 4 {
		return fault(api.ErrMany, 0)
	}
	for i, q := range keep {
		if !slices.Contains(all(c.Qubits), q) || slices.Index(keep, q) < i {
			return fault(api.ErrQubit, i)
		}
	}
	return none
}

// As many tapes as Chances tells are summed up, and no more.
func TestReducedOfManyTapes(t *testing.T) {
	equal(t, "2^10 tapes", reduced(t, halves(t, 10), 0, 0), [][]string{{"1/1", "0"}, {"0", "1/1"}})
	for _, c := range []api.Circuit{halves(t, 11), halves(t, api.MaxOps/2), chain(t, api.MaxFan, 0), chain(t, api.MaxFan, 1)} {
		m, f := state.Reduced(c, 0, []int{0})
		equal(t, "too many tapes", f, fault(api.ErrMany, 0))
		equal(t, "too many tapes", len(m), 0)
	}
	// Behind so many tosses the qubit is 0 with a chance of 2^-1023.
	equal(t, "a chain", reduced(t, chain(t, api.MaxFan-1, 0), 0, 0)[0][0], "1/1023")
}
