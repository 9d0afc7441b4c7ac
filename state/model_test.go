package state_test

import (
	"qloom/api"
	"qloom/circ"
	"qloom/ring"
)

// What the document says, written out once more, without haste: an operation
// says of each basis state what becomes of it, and the amplitudes are summed up
// anew behind each one; all tapes are tried, of whatever outcomes.

// modelRun is what Run answers, its amplitudes as numbers.
func modelRun(c api.Circuit, in int, tape []int) (amps []ring.Num, bits []int, used int, f api.Fault) {
	if f := modelCheck(c, in); f != none {
		return nil, nil, 0, f
	}
	amps, bits = make([]ring.Num, 1<<c.Qubits), make([]int, c.Bits)
	amps[in] = ring.Root(0)
	for at, op := range c.Ops {
		if !modelHolds(op.If, bits) {
			continue
		}
		outcome := 0
		if op.Kind == api.Measure || op.Kind == api.Reset {
			if used >= len(tape) {
				return nil, nil, 0, fault(api.ErrTape, at)
			}
			outcome = tape[used]
			if outcome < 0 || outcome > 1 {
				return nil, nil, 0, fault(api.ErrOutcome, at)
			}
			used++
		}
		if op.Kind == api.Measure {
			bits[op.Bit] = outcome
		}
		amps = modelStep(op, outcome, amps)
	}
	return amps, bits, used, none
}

func modelCheck(c api.Circuit, in int) api.Fault {
	if f := circ.Check(c); f != none {
		return f
	}
	for x := range 1 << c.Qubits {
		if x == in {
			return none
		}
	}
	return fault(api.ErrInput, 0)
}

func modelHolds(conditions, bits []int) bool {
	met := 0
	for _, term := range conditions {
		for b, value := range bits {
			if term == b+1 && value == 1 || term == -(b+1) && value == 0 {
				met++
			}
		}
	}
	return met == len(conditions)
}

// modelStep is what becomes of all amplitudes.
func modelStep(op api.Op, outcome int, amps []ring.Num) []ring.Num {
	out := make([]ring.Num, len(amps))
	for x, a := range amps {
		for y, factor := range image(op, outcome, x) {
			out[y] = out[y].Add(a.Mul(factor))
		}
	}
	return out
}

// image is what becomes of one basis state: others, each with a factor.
func image(op api.Op, outcome, x int) map[int]ring.Num {
	for _, control := range op.Ctl {
		if qubit(x, control) == 0 {
			return map[int]ring.Num{x: ring.Root(0)}
		}
	}
	value := qubit(x, op.Q)
	switch op.Kind {
	case api.Phase:
		return map[int]ring.Num{x: ring.Root(op.K)}
	case api.X:
		return map[int]ring.Num{with(x, op.Q, 1-value): ring.Root(0)}
	case api.H:
		return map[int]ring.Num{with(x, op.Q, 0): ring.Rt(), with(x, op.Q, 1): ring.Rt().Turn(8 * value)}
	case api.P:
		return map[int]ring.Num{x: ring.Root(op.K * value)}
	case api.Measure:
		if value == outcome {
			return map[int]ring.Num{x: ring.Root(0)}
		}
	case api.Reset:
		if value == outcome {
			return map[int]ring.Num{with(x, op.Q, 0): ring.Root(0)}
		}
	}
	return nil
}

// qubit is what qubit q is in basis state x.
func qubit(x, q int) int { return x >> q % 2 }

// with is the basis state that has the value in qubit q, and is x else.
func with(x, q, value int) int { return x + (value-qubit(x, q))<<q }

func modelTexts(amps []ring.Num) []string {
	var out []string
	for _, a := range amps {
		out = append(out, a.Text())
	}
	return out
}

func modelChance(amps []ring.Num) ring.Num {
	var out ring.Num
	for _, a := range amps {
		out = out.Add(a.Mul(a.Conj()))
	}
	return out
}

// modelTapes are all tapes, in their order, with which the run ends just at the
// tape's end, and whose chance is not 0. The circuit has no fault.
func modelTapes(c api.Circuit, in int, begin []int) [][]int {
	amps, _, used, f := modelRun(c, in, begin)
	if f == none {
		if used != len(begin) || modelChance(amps).Zero() {
			return nil
		}
		return [][]int{append([]int(nil), begin...)}
	}
	zero := modelTapes(c, in, append(append([]int(nil), begin...), 0))
	one := modelTapes(c, in, append(append([]int(nil), begin...), 1))
	return append(zero, one...)
}

func modelChances(c api.Circuit, in int) []api.Branch {
	var out []api.Branch
	for _, tape := range modelTapes(c, in, nil) {
		amps, bits, _, _ := modelRun(c, in, tape)
		out = append(out, api.Branch{Tape: tape, Bits: bits, Chance: modelChance(amps).Text()})
	}
	return out
}

// modelReduced goes through all pairs of basis states.
func modelReduced(c api.Circuit, in int, keep []int) [][]string {
	sums := map[[2]int]ring.Num{}
	for _, tape := range modelTapes(c, in, nil) {
		amps, _, _, _ := modelRun(c, in, tape)
		for x, a := range amps {
			for y, b := range amps {
				if without(x, keep) == without(y, keep) {
					place := [2]int{among(x, keep), among(y, keep)}
					sums[place] = sums[place].Add(a.Mul(b.Conj()))
				}
			}
		}
	}
	out := make([][]string, 1<<len(keep))
	for i := range out {
		for j := range out {
			out[i] = append(out[i], sums[[2]int{i, j}].Text())
		}
	}
	return out
}

// without is x with all of the kept qubits 0.
func without(x int, keep []int) int {
	for _, q := range keep {
		x = with(x, q, 0)
	}
	return x
}

// among is the number of the basis state of the kept qubits.
func among(x int, keep []int) int {
	out := 0
	for i, q := range keep {
		out = with(out, i, qubit(x, q))
	}
	return out
}
