package lower_test

import (
	"fmt"
	"slices"
	"testing"

	"qloom/api"
	"qloom/circ"
	"qloom/state"
)

func TestExamplesOfTheDocument(t *testing.T) {
	equal(t, "p 2", base(t, circuit(t, "qubits 2 bits 0", "p 2 1 on 0")).Qubits, 2)
	equal(t, "p 1", base(t, circuit(t, "qubits 2 bits 0", "p 1 1 on 0")).Qubits, 3)
	equal(t, "seven controls", base(t, circuit(t, "qubits 8 bits 0", "x 7 on 0 1 2 3 4 5 6")).Qubits, 12)
	refused(t, "seven controls", circuit(t, "qubits 9 bits 0", "x 7 on 0 1 2 3 4 5 6"), fault(api.ErrRoom, 0))
	equal(t, "three controls want none", base(t, circuit(t, "qubits 4 bits 0", "x 3 on 0 1 2")).Qubits, 4)
	equal(t, "four want one", base(t, circuit(t, "qubits 5 bits 0", "x 4 on 0 1 2 3")).Qubits, 6)
	equal(t, "so it is with h", base(t, circuit(t, "qubits 5 bits 0", "h 4 on 0 1 2 3")).Qubits, 6)
	equal(t, "p 1 wants as many as it has controls", base(t, circuit(t, "qubits 5 bits 0", "p 1 4 on 0 1 2 3")).Qubits, 9)
}

// How many spare qubits are wanted, as numbers: with 1, 2 and more controls.
func TestSpareQubits(t *testing.T) {
	eighths := []int{0, 0, 0, 1, 2, 3, 4}
	counts := map[string][]int{"x": eighths, "h": eighths, "p 8": eighths, "p 0": make([]int, 11)}
	for k := 1; k < 16; k += 2 {
		counts[fmt.Sprint("p ", k)] = []int{1, 2, 3, 4, 5}
	}
	for k := 2; k < 16; k += 4 {
		counts[fmt.Sprint("p ", k)] = []int{0, 1, 2, 3, 4, 5}
	}
	for k := 4; k < 16; k += 8 {
		counts[fmt.Sprint("p ", k)] = []int{0, 0, 1, 2, 3, 4}
	}
	equal(t, "kinds and turns", len(counts), 18)
	for word, wanted := range counts {
		line := word + " 0 on"
		for i, spare := range wanted {
			line += fmt.Sprint(" ", i+1)
			for qubits := i + 2; qubits <= 12; qubits++ {
				c := circuit(t, fmt.Sprintf("qubits %d bits 0", qubits), line)
				if qubits+spare <= 12 {
					equal(t, line, formed(t, c).Qubits, qubits+spare)
				} else {
					refused(t, line, c, fault(api.ErrRoom, 0))
				}
			}
		}
	}
}

// What has no controls wants nothing, whatever its turn.
func TestSpareQubitsWithoutControls(t *testing.T) {
	for _, op := range append(gates(0), api.Op{Kind: api.Phase, K: 1}, api.Op{Kind: api.Reset}, api.Op{Kind: api.Measure}) {
		for qubits := 1; qubits <= 12; qubits++ {
			equal(t, short(op), formed(t, one(qubits, 1, op)).Qubits, qubits)
		}
	}
}

// The most that one of them wants, not the sum, and in whatever order they stand.
func TestSpareQubitsOfSeveral(t *testing.T) {
	lines := []string{"p 1 1 on 0", "x 4 on 0 1 2 3", "p 2 3 on 0 1 2", "h 5 on 0 1 2 3 4", "p 3 4 on 0 2 5", "measure 0 to 0", "p 0 5 on 0 1 2 3 4"}
	most := []int{1, 1, 2, 2, 3, 3, 3}
	for i := range lines {
		c := circuit(t, append([]string{"qubits 6 bits 1"}, lines[:i+1]...)...)
		equal(t, short(lines[:i+1]), formed(t, c).Qubits, 6+most[i])
		slices.Reverse(c.Ops)
		equal(t, short(lines[:i+1]), formed(t, c).Qubits, 6+most[i])
		equal(t, "twice", formed(t, then(t, c, c)).Qubits, 6+most[i])
	}
}

// then is a circuit with the operations of another behind its own.
func then(t *testing.T, a, b api.Circuit) api.Circuit {
	t.Helper()
	c, f := circ.Then(a, b)
	if f != none {
		t.Fatalf("Then: %v", f)
	}
	return c
}

// Every gate with as many controls as there is room for, on all of the qubits.
func TestEveryGateDoesWhatItDid(t *testing.T) {
	for controls := range api.MaxQubits {
		for _, op := range gates(controls) {
			if controls+1+wants(op) <= 12 {
				t.Run(fmt.Sprint(op.Kind, op.K, controls), func(t *testing.T) {
					t.Parallel()
					doesFrom(t, one(controls+1, 0, op), some(controls+1))
				})
			}
		}
	}
}

// some are basis states of so many qubits: all of them; if there are more than
// 256, those in which two qubits at the most are 0, or two at the most are 1.
func some(qubits int) []int {
	if qubits <= 8 {
		return span(1 << qubits)
	}
	var out []int
	for p := range qubits {
		for q := range p + 1 {
			few := 1<<p | 1<<q
			out = append(out, few, 1<<qubits-1-few)
		}
	}
	return append(out, 0, 1<<qubits-1)
}

// Controls and qubit in any order, and qubits that are not touched: all of them stay
// what they were.
func TestGatesAnywhere(t *testing.T) {
	t.Parallel()
	for i := range 400 {
		n := noise(i)
		qubits := 1 + n.below(7)
		if c := one(qubits, 0, n.gate(qubits, 6)); wantedFault(c) == none {
			does(t, c)
		}
	}
	does(t, circuit(t, "qubits 3 bits 0", "x 1 on 2 0"))
	does(t, circuit(t, "qubits 6 bits 0", "h 2 on 5 0 4 1"))
	does(t, circuit(t, "qubits 5 bits 0", "p 13 0 on 4 2"))
	doesFrom(t, circuit(t, "qubits 12 bits 0", "x 3 on 11 0 7"), []int{0, 1, 1<<11 | 1<<7 | 1, 1<<11 | 1<<7 | 1<<3 | 1, 1<<12 - 1, 1<<12 - 2})
	doesFrom(t, circuit(t, "qubits 11 bits 0", "p 1 10 on 0"), []int{0, 1, 1 << 10, 1<<10 | 1, 1<<11 - 1})
}

// The spare qubits are 0 again behind each operation, so that the next one finds them so.
func TestOperationsOneBehindTheOther(t *testing.T) {
	t.Parallel()
	does(t, circuit(t, "qubits 4 bits 0", "p 1 3 on 0 1", "h 2 on 0", "p 1 0 on 2", "h 1 on 0 2", "p 3 2 on 1 3 0", "x 3 on 0 1 2", "h 0 on 1 2 3"))
	does(t, circuit(t, "qubits 5 bits 0", "h 0", "x 4 on 0 1 2 3", "h 4", "h 1 on 0 2 3 4", "p 8 4 on 0 1 2 3", "x 0 on 4"))
	does(t, circuit(t, "qubits 3 bits 0", "h 0", "h 1", "h 2", "p 5 2 on 0 1", "p 11 0 on 1 2"))
	does(t, api.Circuit{Qubits: 4, Ops: slices.Repeat(gates(3)[:2], 9)})
}

// Behind a circuit of gates comes its Inverse: nothing is left of either.
func TestUndoneCircuits(t *testing.T) {
	t.Parallel()
	for i := range 40 {
		n := noise(i)
		c := n.circuit(4, 0, 6, 3)
		c.Ops = slices.DeleteFunc(c.Ops, func(op api.Op) bool { return op.Kind >= api.Measure })
		back, f := circ.Inverse(c)
		equal(t, "Inverse", f, none)
		out := formed(t, then(t, c, back))
		for in := range 16 {
			shot, f := state.Run(out, in, nil)
			want := slices.Repeat([]string{"0"}, 1<<out.Qubits)
			want[in] = "1"
			equal(t, "run", f, none)
			equal(t, "undone", shot.Amps, want)
		}
	}
}

// What is basic already stays as it is.
func TestBasicCircuits(t *testing.T) {
	lines := []string{"qubits 3 bits 2", "phase 3", "phase 0 if 1", "x 2", "x 0 on 2 if !0 1", "h 1 if 0 0 !0", "p 0 1", "p 15 2 if !1", "measure 0 to 1", "measure 2 to 0 if 1", "reset 1", "reset 0 if !1", "x 1 on 0"}
	c := circuit(t, lines...)
	equal(t, "as it is", formed(t, c), c)
	does(t, c)
}

// A turn by 0 needs no gate; but it counts as one with controls.
func TestTurnsByNothing(t *testing.T) {
	for controls := 1; controls < 12; controls++ {
		c := one(12, 1, api.Op{Kind: api.P, Q: controls, Ctl: span(controls), If: []int{1}})
		doesFrom(t, c, []int{0, 5, 1<<12 - 1})
		c.Ops = slices.Repeat(c.Ops, 18)
		formed(t, c)
		c.Ops = append(c.Ops, c.Ops[0])
		refused(t, "nineteen", c, fault(api.ErrMany, 0))
	}
}

// Conditions on operations of all kinds, with and without controls, which hold or don't.
func TestConditions(t *testing.T) {
	t.Parallel()
	words := []string{"x 2", "h 0", "phase 5", "p 3 1", "x 1 on 0", "h 1 on 0", "p 3 1 on 0", "p 2 2 on 0 1", "x 2 on 1 0", "h 0 on 2 1", "measure 1 to 1", "reset 2"}
	for _, word := range words {
		for _, terms := range []string{"0", "!0", "0 !1", "!1 !0", "0 !0", "1 1 0", "1"} {
			does(t, circuit(t, "qubits 3 bits 2", "h 0", "h 2", "measure 0 to 0", "h 0", word+" if "+terms))
			does(t, circuit(t, "qubits 3 bits 2", "measure 0 to 0", "h 1 on 0 if 0", word+" if "+terms, "measure 1 to 1", word+" if "+terms, "p 1 1 on 2"))
		}
	}
	long := slices.Repeat([]int{1, -2}, api.MaxBits)
	for _, op := range gates(3) {
		op.If = long
		does(t, api.Circuit{Qubits: 4, Bits: 2, Ops: []api.Op{{Kind: api.Measure}, op}})
	}
}

// Measurements and resets between gates with controls, of their controls and qubits.
func TestMeasurementsAndResets(t *testing.T) {
	t.Parallel()
	does(t, circuit(t, "qubits 3 bits 1", "h 0", "h 1 on 0", "measure 0 to 0", "x 2 on 0 1", "reset 1", "p 1 2 on 0 if 0", "h 2", "measure 2 to 0", "x 0 on 2 1 if !0"))
	does(t, circuit(t, "qubits 4 bits 3", "h 3", "p 4 0 on 1 2 3", "measure 3 to 2", "h 1 on 3 0", "reset 3", "p 7 1 on 0", "measure 1 to 0 if 2", "h 0 on 1 2 3 if 2 !0"))
	does(t, circuit(t, "qubits 2 bits 0", "h 0 on 1", "reset 0", "p 1 0 on 1", "reset 1", "reset 0"))
	does(t, circuit(t, "qubits 1 bits 1", "measure 0 to 0", "reset 0", "x 0 if 0"))
}

func TestCircuitsWithoutOperations(t *testing.T) {
	for qubits := 1; qubits <= 12; qubits++ {
		for bits := range 13 {
			out := formed(t, api.Circuit{Qubits: qubits, Bits: bits})
			equal(t, "nothing", out, api.Circuit{Qubits: qubits, Bits: bits})
		}
	}
	does(t, api.Circuit{Qubits: 1})
	does(t, api.Circuit{Qubits: 3, Bits: 12})
}

// Circuits without order, of a few qubits.
func TestManyCircuits(t *testing.T) {
	t.Parallel()
	tried := 0
	for i := range 300 {
		n := noise(1000 + i)
		c := n.circuit(1+i%5, n.below(4), 1+n.below(9), 4)
		if wantedFault(c) == none {
			does(t, c)
			tried++
		}
	}
	equal(t, "many are tried", tried > 250, true)
}

// Circuits on as many qubits as there may be, from a few basis states.
func TestWideCircuits(t *testing.T) {
	t.Parallel()
	tried := 0
	for i := range 120 {
		n := noise(5000 + i)
		c := n.circuit(6+n.below(7), n.below(3), 4+n.below(4), 7)
		if wantedFault(c) == none {
			doesFrom(t, c, []int{n.below(1 << c.Qubits), 1<<c.Qubits - 1})
			tried++
		}
	}
	equal(t, "some are tried", tried > 30, true)
}

// What is no basis state is none of either circuit, if the other has no spare qubits.
func TestRunsThatCannotBegin(t *testing.T) {
	c := circuit(t, "qubits 2 bits 1", "h 1 on 0", "measure 0 to 0")
	out := formed(t, c)
	for _, in := range []int{-1, 4, 1 << 40} {
		equal(t, "no basis state", alike(t, c, out, in, []int{0}), api.ErrInput)
	}
}
