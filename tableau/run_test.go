package tableau_test

import (
	"fmt"
	"slices"
	"testing"

	"qloom/api"
	"qloom/state"
)

func TestExamplesOfRun(t *testing.T) {
	twin := circuit(t, "qubits 2 bits 0", "h 0", "x 1 on 0")
	for in, want := range [][]string{{"+XX", "+ZZ"}, {"-XX", "+ZZ"}, {"+XX", "-ZZ"}, {"-XX", "-ZZ"}} {
		equal(t, "twin", runOf(twin, in), ran{paulis: want})
		runs(t, twin, in, nil)
	}
	look := circuit(t, "qubits 1 bits 1", "measure 0 to 0")
	equal(t, "an outcome that cannot come", runOf(look, 0, 1), ran{fault: fault(api.ErrOutcome, 0)})
	equal(t, "one that can", runOf(look, 0, 0), ran{paulis: []string{"+Z"}, bits: []int{0}, used: 1})
	equal(t, "one that can", runOf(look, 1, 1), ran{paulis: []string{"-Z"}, bits: []int{1}, used: 1})
}

// Six states of one qubit have stabilizers.
func TestStatesOfOneQubit(t *testing.T) {
	for want, lines := range map[string][]string{
		"+Z": {}, "-Z": {"x 0"}, "+X": {"h 0"}, "-X": {"x 0", "h 0"},
		"+Y": {"h 0", "p 4 0"}, "-Y": {"h 0", "p 12 0"},
	} {
		c := circuit(t, append([]string{"qubits 1 bits 0"}, lines...)...)
		equal(t, fmt.Sprint(lines), runOf(c, 0).paulis, []string{want})
		runs(t, c, 0, nil)
	}
}

// The one form: which Paulis lead, with which sign, and in which order they are told.
func TestTheOneForm(t *testing.T) {
	for _, tried := range []struct {
		want  []string
		lines []string
	}{
		{[]string{"+ZII", "+IZI", "+IIZ"}, nil},
		{[]string{"+IXI", "+ZII", "+IIZ"}, []string{"h 1"}},
		{[]string{"+IXI", "+IIX", "+ZII"}, []string{"h 2", "h 1"}},
		{[]string{"+XXX", "+ZIZ", "+IZZ"}, []string{"h 0", "x 1 on 0", "x 2 on 1"}},
		{[]string{"+XIX", "+IXX", "+ZZZ"}, []string{"h 0", "h 1", "x 2 on 0", "x 2 on 1"}},
		{[]string{"+XZI", "+ZXZ", "+IZX"}, []string{"h 0", "h 1", "h 2", "p 8 1 on 0", "p 8 2 on 1"}},
		{[]string{"+YZI", "+ZYI", "-IIZ"}, []string{"h 0", "h 1", "p 8 1 on 0", "p 4 0", "p 4 1", "x 2"}},
		{[]string{"+XXI", "-ZZI", "+IIZ"}, []string{"h 0", "x 1 on 0", "x 1"}},
		{[]string{"+XYI", "-ZZI", "+IIZ"}, []string{"h 0", "x 1 on 0", "x 1", "p 4 1"}},
		{[]string{"-XYI", "+ZZI", "+IIZ"}, []string{"h 0", "x 1 on 0", "p 12 1"}},
	} {
		c := circuit(t, append([]string{"qubits 3 bits 0"}, tried.lines...)...)
		equal(t, fmt.Sprint(tried.lines), runOf(c, 0).paulis, tried.want)
		runsAll(t, c)
	}
}

// All short circuits of one qubit and one bit.
func TestAllShortCircuitsOfOneQubit(t *testing.T) {
	t.Parallel()
	ops := circuit(t, "qubits 1 bits 1", "phase 3", "x 0", "h 0", "p 0 0", "p 4 0", "p 8 0", "p 12 0", "measure 0 to 0", "reset 0",
		"x 0 if 0", "h 0 if !0", "p 4 0 if 0", "measure 0 to 0 if 0", "reset 0 if !0", "reset 0 if 0 !0").Ops
	for length := range 4 {
		rows(ops, length, func(row []api.Op) { runsAll(t, api.Circuit{Qubits: 1, Bits: 1, Ops: row}) })
	}
}

// All short circuits of two qubits, behind an H.
func TestAllShortCircuitsOfTwoQubits(t *testing.T) {
	t.Parallel()
	ops := circuit(t, "qubits 2 bits 1", "h 0", "h 1", "p 4 0", "p 12 1", "x 1 on 0", "x 0 on 1", "p 8 1 on 0", "p 0 0 on 1",
		"measure 0 to 0", "measure 1 to 0 if !0", "reset 0", "reset 1 if 0", "x 1 if 0").Ops
	for length := range 4 {
		rows(ops, length, func(row []api.Op) {
			c := api.Circuit{Qubits: 2, Bits: 1, Ops: append([]api.Op{{Kind: api.H}}, row...)}
			runsAll(t, c)
		})
	}
}

// Circuits without order, of every kind of operation, with conditions.
func TestRunsOfManyCircuits(t *testing.T) {
	t.Parallel()
	for i := range 500 {
		n := noise(i)
		runsAll(t, n.circuit(1+n.below(4), n.below(4), n.below(24), n.below(4)))
	}
}

// Gates alone: what the stabilizers are behind them.
func TestRunsOfGates(t *testing.T) {
	t.Parallel()
	for i := range 200 {
		n := noise(i)
		c := n.gates(1+n.below(6), n.below(40))
		runs(t, c, n.below(1<<c.Qubits), nil)
	}
}

// Many outcomes, each of which is one that can come or not.
func TestManyOutcomes(t *testing.T) {
	t.Parallel()
	faults := map[int]int{}
	for i := range 400 {
		n := noise(i)
		c := n.circuit(1+n.below(5), 1+n.below(3), 30, 12)
		var tape []int
		for range n.below(13) {
			tape = append(tape, n.below(2))
		}
		for range 12 {
			f := runFault(c, 0, tape)
			runs(t, c, 0, tape)
			faults[f.Code]++
			if f.Code == api.ErrOutcome {
				tape[takenAhead(t, c, tape, f.At)] ^= 1
			}
		}
	}
	for _, code := range []int{0, api.ErrTape, api.ErrOutcome} {
		equal(t, "there are such runs", faults[code] > 100, true)
	}
}

// takenAhead is how many outcomes are taken ahead of an operation.
func takenAhead(t *testing.T, c api.Circuit, tape []int, op int) int {
	t.Helper()
	c.Ops = c.Ops[:op]
	shot, f := state.Run(c, 0, tape)
	equal(t, "ahead", f, none)
	return shot.Used
}

// An outcome that was told comes again, and no other one.
func TestOutcomesThatAreKnown(t *testing.T) {
	c := circuit(t, "qubits 2 bits 2", "h 0", "x 1 on 0", "measure 0 to 0", "measure 1 to 1", "measure 0 to 1")
	for tape := range 8 {
		list := []int{tape & 1, tape >> 1 & 1, tape >> 2}
		want := ran{fault: fault(api.ErrOutcome, 3)}
		switch {
		case tape == 0:
			want = ran{paulis: []string{"+ZI", "+IZ"}, bits: []int{0, 0}, used: 3}
		case tape == 7:
			want = ran{paulis: []string{"-ZI", "-IZ"}, bits: []int{1, 1}, used: 3}
		case list[0] == list[1]:
			want.fault.At = 4
		}
		equal(t, fmt.Sprint(list), runOf(c, 0, list...), want)
	}
}

// What is known of several qubits at once is known of one, once the others are told.
func TestOutcomesThatAreKnownTogether(t *testing.T) {
	c := circuit(t, "qubits 3 bits 1", "h 0", "h 1", "x 2 on 0", "x 2 on 1", "p 8 2", "x 2", "measure 0 to 0", "measure 1 to 0", "measure 2 to 0")
	for tape := range 8 {
		list := []int{tape & 1, tape >> 1 & 1, tape >> 2}
		can := list[0]^list[1]^list[2] == 1
		equal(t, fmt.Sprint(list), runOf(c, 0, list...).fault.Code == 0, can)
		runs(t, c, 0, list)
	}
}

// A reset takes an outcome, and the qubit is 0 behind it, whatever it was; the qubits
// that it was bound to are told, too.
func TestResets(t *testing.T) {
	c := circuit(t, "qubits 2 bits 1", "h 0", "x 1 on 0", "reset 0")
	equal(t, "0", runOf(c, 0, 0), ran{paulis: []string{"+ZI", "+IZ"}, bits: []int{0}, used: 1})
	equal(t, "1", runOf(c, 0, 1), ran{paulis: []string{"+ZI", "-IZ"}, bits: []int{0}, used: 1})
	known := circuit(t, "qubits 1 bits 0", "x 0", "reset 0", "reset 0")
	equal(t, "known", runOf(known, 0, 1, 0), ran{paulis: []string{"+Z"}, used: 2})
	equal(t, "known", runOf(known, 0, 0, 0), ran{fault: fault(api.ErrOutcome, 1)})
	equal(t, "known", runOf(known, 0, 1, 1), ran{fault: fault(api.ErrOutcome, 2)})
	equal(t, "no more", runOf(known, 0, 1), ran{fault: fault(api.ErrTape, 2)})
}

// An operation is done where all of its conditions hold; else it takes no outcome, and
// whatever the tape has next, is nothing to it.
func TestConditions(t *testing.T) {
	c := circuit(t, "qubits 3 bits 2", "measure 0 to 0", "measure 1 to 1",
		"x 2 if 0 !1", "h 2 if !0 1 1", "p 4 2 if !0 1 !0", "x 2 on 0 if 0 1", "phase 5 if 0", "reset 2 if 0 1", "measure 2 to 0 if 0 !0")
	for in, want := range map[int]ran{
		0: {paulis: []string{"+ZII", "+IZI", "+IIZ"}, bits: []int{0, 0}, used: 2},
		1: {paulis: []string{"-ZII", "+IZI", "-IIZ"}, bits: []int{1, 0}, used: 2},
		2: {paulis: []string{"+IIY", "+ZII", "-IZI"}, bits: []int{0, 1}, used: 2},
		3: {paulis: []string{"-ZII", "-IZI", "+IIZ"}, bits: []int{1, 1}, used: 3},
	} {
		equal(t, fmt.Sprint(in), runOf(c, in, in&1, in>>1, 1, 7), want)
	}
	runsAll(t, c)
	equal(t, "no outcome", runOf(c, 3, 1, 1, 7), ran{fault: fault(api.ErrOutcome, 7)})
	equal(t, "no more", runOf(c, 3, 1, 1), ran{fault: fault(api.ErrTape, 7)})
}

// What is left of the tape doesn't matter.
func TestWhatIsLeftOfTheTape(t *testing.T) {
	for i := range 200 {
		n := noise(i)
		c := n.circuit(1+n.below(4), n.below(3), n.below(20), n.below(4))
		var good []int
		tapes(func(tape []int) bool {
			f := runOf(c, 0, tape...).fault
			if f == none {
				good = tape
			}
			return f.Code == api.ErrTape
		})
		want := runOf(c, 0, good...)
		equal(t, "used", want.used, len(good))
		for _, rest := range [][]int{{0}, {1}, {2}, {-1, 1 << 40}, make([]int, 5000)} {
			equal(t, "with more", runOf(c, 0, slices.Concat(good, rest)...), want)
		}
	}
}

// Bits begin as 0, as many as the circuit has; measurements alone change them.
func TestBits(t *testing.T) {
	for bits := range api.MaxBits + 1 {
		equal(t, "bits", runOf(api.Circuit{Qubits: 2, Bits: bits}, 1).bits, make([]int, bits))
	}
	c := circuit(t, "qubits 2 bits 12", "x 0", "measure 0 to 11", "measure 1 to 3", "measure 0 to 5", "x 0", "measure 0 to 5", "reset 0", "reset 1")
	equal(t, "bits", runOf(c, 0, 1, 0, 1, 0, 0, 0).bits, []int{0, 0, 0, 0, 0, 0, 0, 0, 0, 0, 0, 1})
}

// Without operations each basis state has its own stabilizers.
func TestRunsOfNoOperations(t *testing.T) {
	for qubits := 1; qubits <= api.MaxQubits; qubits++ {
		c := api.Circuit{Qubits: qubits}
		for _, in := range []int{0, 1, 1<<qubits - 1, 1 << (qubits - 1), 1 << qubits / 3} {
			in = min(in, 1<<qubits-1)
			var want []string
			for q := range qubits {
				p := []byte(at(qubits, q, "Z"))
				p[0] = "+-"[in>>q&1]
				want = append(want, string(p))
			}
			equal(t, "a basis state", runOf(c, in), ran{paulis: want})
		}
	}
}

// Of as many qubits as there may be, package state tells the same.
func TestRunsOfTwelveQubits(t *testing.T) {
	t.Parallel()
	for i := range 3 {
		n := noise(i)
		c := n.circuit(12, 12, 45, 6)
		in := n.below(1 << 12)
		tape := make([]int, 6)
		for {
			f := runOf(c, in, tape...).fault
			if f == none {
				break
			}
			equal(t, "an outcome that cannot come", f.Code, api.ErrOutcome)
			c.Ops[f.At].If = append(c.Ops[f.At].If, 1, -1)
		}
		equal(t, short(c), runs(t, c, in, tape), 0)
	}
}

// As many operations as there may be, on as many qubits: with what undoes them behind
// them all is as it was, outcomes that are known in the middle are as they must be.
func TestLongRuns(t *testing.T) {
	for i := range 20 {
		n := noise(i)
		half := n.gates(12, 2047)
		c := then(t, half, inverse(t, half))
		c.Bits = 12
		c.Ops = append(c.Ops, api.Op{Kind: api.Measure, Q: 7, Bit: 3}, api.Op{Kind: api.Reset, Q: 4})
		in := n.below(1 << 12)
		bits := make([]int, 12)
		bits[3] = in >> 7 & 1
		want := runOf(api.Circuit{Qubits: 12, Bits: 12}, in&^(1<<4))
		want.bits, want.used = bits, 2
		equal(t, "all undone", runOf(c, in, bits[3], in>>4&1), want)
		equal(t, "another outcome", runOf(c, in, 1-bits[3]), ran{fault: fault(api.ErrOutcome, 4094)})
		equal(t, "another outcome", runOf(c, in, bits[3], in>>4&1^1), ran{fault: fault(api.ErrOutcome, 4095)})
	}
}

// As many operations as there may be, each second one a measurement behind an H: every
// tape can come.
func TestManyMeasurements(t *testing.T) {
	n := noise(5)
	c := api.Circuit{Qubits: 12, Bits: 12}
	var tape []int
	last := make([]int, 12)
	for i := range api.MaxOps / 2 {
		q, outcome := i%12, n.below(2)
		c.Ops = append(c.Ops, api.Op{Kind: api.H, Q: q}, api.Op{Kind: api.Measure, Q: q, Bit: q})
		tape = append(tape, outcome)
		last[q] = outcome
	}
	in := 0
	for q, outcome := range last {
		in |= outcome << q
	}
	want := runOf(api.Circuit{Qubits: 12}, in)
	want.bits, want.used = last, api.MaxOps/2
	equal(t, "all told", runOf(c, 99, tape...), want)
	equal(t, "one is missing", runOf(c, 99, tape[1:]...), ran{fault: fault(api.ErrTape, api.MaxOps-1)})
}
