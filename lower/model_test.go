package lower_test

import (
	"fmt"
	"slices"
	"testing"

	"qloom/api"
	"qloom/circ"
	"qloom/lower"
	"qloom/state"
)

// What the document says, written out once more: which fault a circuit has, what
// form Base's circuit has, and what both of them do, run side by side.

// twos is how often 2 divides K; nought is divided by all.
func twos(k int) int {
	if k == 0 {
		return 1000
	}
	count := 0
	for ; k%2 == 0; k /= 2 {
		count++
	}
	return count
}

// wants is how many spare qubits an operation wants.
func wants(op api.Op) int {
	k := op.K
	if op.Kind == api.X || op.Kind == api.H {
		k = 8
	}
	return max(0, len(op.Ctl)-twos(k))
}

// numbers are what the document reckons with: how many spare qubits are wanted, and
// how many operations Base's circuit may have.
func numbers(c api.Circuit) (spare, room int) {
	room = len(c.Ops)
	for _, op := range c.Ops {
		spare = max(spare, wants(op))
		if len(op.Ctl) != 0 {
			room += 220
		}
	}
	return spare, room
}

// wantedFault is the fault that Base is to answer.
func wantedFault(c api.Circuit) api.Fault {
	if f := circ.Check(c); f != none {
		return f
	}
	spare, room := numbers(c)
	switch {
	case room > 4096:
		return fault(api.ErrMany, 0)
	case c.Qubits+spare > 12:
		return fault(api.ErrRoom, 0)
	}
	return none
}

// isBasic: is it a basic gate, a measurement or a reset?
func isBasic(op api.Op) bool {
	switch len(op.Ctl) {
	case 0:
		return true
	case 1:
		return op.Kind == api.X
	}
	return false
}

// count is how many operations of a kind there are.
func count(c api.Circuit, kind int) int {
	out := 0
	for _, op := range c.Ops {
		if op.Kind == kind {
			out++
		}
	}
	return out
}

// formed is Base's circuit of one that has no fault, held to its form.
func formed(t *testing.T, c api.Circuit) api.Circuit {
	t.Helper()
	out, f := lower.Base(c)
	if f != none {
		t.Fatalf("Base of %s: %v", short(c), f)
	}
	if f := circ.Check(out); f != none {
		t.Errorf("Base of %s has the fault %v", short(c), f)
	}
	spare, room := numbers(c)
	equal(t, "qubits of "+short(c), out.Qubits, c.Qubits+spare)
	equal(t, "bits of "+short(c), out.Bits, c.Bits)
	if len(out.Ops) > room {
		t.Errorf("Base of %s: %d operations, not more than %d may be", short(c), len(out.Ops), room)
	}
	for _, kind := range []int{api.Measure, api.Reset} {
		equal(t, "measurements or resets of "+short(c), count(out, kind), count(c, kind))
	}
	if at := slices.IndexFunc(out.Ops, func(op api.Op) bool { return !isBasic(op) }); at >= 0 {
		t.Errorf("Base of %s: no basic gate: %v", short(c), out.Ops[at])
	}
	return out
}

// does holds Base's circuit to what a circuit does, from every basis state in which
// the spare qubits are 0, and with every tape.
func does(t *testing.T, c api.Circuit) {
	t.Helper()
	doesFrom(t, c, span(1<<c.Qubits))
}

// doesFrom is does, from some basis states alone.
func doesFrom(t *testing.T, c api.Circuit, ins []int) {
	t.Helper()
	out := formed(t, c)
	for _, in := range ins {
		tapes(func(tape []int) bool { return alike(t, c, out, in, tape) == api.ErrTape })
	}
}

// mostTapes is how many tapes of one run are tried.
const mostTapes = 200

// tapes ranges over the tapes of a run, from the empty one on. Behind one with which
// the run asks for more come those with one outcome more, or with what is none.
func tapes(run func(tape []int) (asks bool)) {
	waiting := [][]int{nil}
	for tried := 0; len(waiting) > 0 && tried < mostTapes; tried++ {
		tape := waiting[0]
		waiting = waiting[1:]
		if run(tape) {
			for _, outcome := range []int{0, 1, 2} {
				waiting = append(waiting, append(slices.Clone(tape), outcome))
			}
		}
	}
}

// alike holds a run to another's, and is the code with which that one is refused.
func alike(t *testing.T, c, out api.Circuit, in int, tape []int) int {
	t.Helper()
	want, f := state.Run(c, in, tape)
	got, g := state.Run(out, in, tape)
	what := fmt.Sprint("Base of ", c, " from ", in, " with ", tape)
	equal(t, what, g.Code, f.Code)
	equal(t, what, got.Bits, want.Bits)
	equal(t, what, got.Used, want.Used)
	if f == none && g == none {
		want.Amps = append(want.Amps, slices.Repeat([]string{"0"}, len(got.Amps)-len(want.Amps))...)
		if !slices.Equal(got.Amps, want.Amps) {
			t.Errorf("%s: %s, want %s", short(what), short(got.Amps), short(want.Amps))
		}
	}
	return f.Code
}
