package tableau_test

import (
	"fmt"
	"regexp"
	"slices"
	"strings"
	"testing"

	"qloom/api"
	"qloom/circ"
	"qloom/ring"
	"qloom/state"
)

// What the document says, written out once more: what a Pauli is, which operations are
// stabilizer operations, which faults the calls have, what the one form of stabilizers
// is; and what circuits do, as package state tells it.

// isPauli: is the text a Pauli of so many qubits?
func isPauli(text string, qubits int) bool {
	return regexp.MustCompile(fmt.Sprintf(`\A[+-][IXYZ]{%d}\z`, qubits)).MatchString(text)
}

// deeds is the circuit that a Pauli is.
func deeds(pauli string) api.Circuit {
	c := api.Circuit{Qubits: len(pauli) - 1}
	for q, letter := range pauli[1:] {
		flip, turn := api.Op{Kind: api.X, Q: q}, api.Op{Kind: api.P, K: 8, Q: q}
		switch letter {
		case 'X':
			c.Ops = append(c.Ops, flip)
		case 'Z':
			c.Ops = append(c.Ops, turn)
		case 'Y':
			c.Ops = append(c.Ops, turn, flip, api.Op{Kind: api.Phase, K: 4})
		}
	}
	if pauli[0] == '-' {
		c.Ops = append(c.Ops, api.Op{Kind: api.Phase, K: 8})
	}
	return c
}

// paulis are all Paulis of so many qubits.
func paulis(qubits int) []string {
	out := []string{"+", "-"}
	for range qubits {
		var longer []string
		for _, text := range out {
			for _, letter := range "IXYZ" {
				longer = append(longer, text+string(letter))
			}
		}
		out = longer
	}
	return out
}

// at is the Pauli that has a letter at a qubit, and I elsewhere.
func at(qubits, q int, letter string) string {
	return "+" + strings.Repeat("I", q) + letter + strings.Repeat("I", qubits-q-1)
}

// isStabilizer: is it a stabilizer operation?
func isStabilizer(op api.Op) bool {
	switch {
	case op.Kind == api.Phase || op.Kind == api.Measure || op.Kind == api.Reset:
		return true
	case op.Kind == api.X:
		return len(op.Ctl) == 0 || len(op.Ctl) == 1
	case op.Kind == api.H:
		return len(op.Ctl) == 0
	case len(op.Ctl) == 0:
		return slices.Contains([]int{0, 4, 8, 12}, op.K)
	case len(op.Ctl) == 1:
		return slices.Contains([]int{0, 8}, op.K)
	}
	return false
}

// normalFault is the fault of the first operation that is no stabilizer operation.
func normalFault(c api.Circuit) api.Fault {
	for i, op := range c.Ops {
		if !isStabilizer(op) {
			return fault(api.ErrNormal, i)
		}
	}
	return none
}

// gatesFault is the fault of Again, and that of Image, if it is given a Pauli.
func gatesFault(c api.Circuit) api.Fault {
	if f := circ.Pure(c); f != none {
		return f
	}
	return normalFault(c)
}

// imageFault is the fault of Image.
func imageFault(c api.Circuit, pauli string) api.Fault {
	f := gatesFault(c)
	if f == none && !isPauli(pauli, c.Qubits) {
		return fault(api.ErrPauli, 0)
	}
	return f
}

// runFault is the fault of Run. Of each beginning of the circuit is asked what
// package state makes of it: an outcome that cannot come leaves all amplitudes 0.
func runFault(c api.Circuit, in int, tape []int) api.Fault {
	if f := circ.Check(c); f != none {
		return f
	}
	if in < 0 || in >= 1<<c.Qubits {
		return fault(api.ErrInput, 0)
	}
	if f := normalFault(c); f != none {
		return f
	}
	for i, op := range c.Ops {
		if op.Kind != api.Measure && op.Kind != api.Reset {
			continue
		}
		shot, f := state.Run(api.Circuit{Qubits: c.Qubits, Bits: c.Bits, Ops: c.Ops[:i+1]}, in, tape)
		if f != none {
			return f
		}
		if !slices.ContainsFunc(shot.Amps, func(amp string) bool { return amp != "0" }) {
			return fault(api.ErrOutcome, i)
		}
	}
	return none
}

// columns are those that a Pauli has, in their order.
func columns(pauli string) []int {
	var xs, zs []int
	for q, letter := range pauli[1:] {
		if letter == 'X' || letter == 'Y' {
			xs = append(xs, q)
		}
		if letter == 'Z' || letter == 'Y' {
			zs = append(zs, len(pauli)-1+q)
		}
	}
	return append(xs, zs...)
}

// inOneForm holds Paulis to the one form, but for what they stabilize.
func inOneForm(t *testing.T, what string, list []string, qubits int) {
	t.Helper()
	if len(list) != qubits {
		t.Fatalf("%s: %d Paulis, want %d", short(what), len(list), qubits)
	}
	before := -1
	for i, p := range list {
		if !isPauli(p, qubits) || len(columns(p)) == 0 {
			t.Fatalf("%s: %q can't be told", short(what), p)
		}
		lead := columns(p)[0]
		if lead <= before {
			t.Errorf("%s: %v is not in the order of the leads", short(what), list)
		}
		before = lead
		for j, other := range list {
			if j != i && slices.Contains(columns(other), lead) {
				t.Errorf("%s: %s has a column that %s leads with", short(what), other, p)
			}
		}
	}
}

// runs holds Run to all that is promised, and is the code of its fault.
func runs(t *testing.T, c api.Circuit, in int, tape []int) int {
	t.Helper()
	got := runOf(c, in, tape...)
	what := fmt.Sprint("Run of ", c, " from ", in, " with ", tape)
	if f := runFault(c, in, tape); f != none {
		equal(t, what, got, ran{fault: f})
		return f.Code
	}
	want, _ := state.Run(c, in, tape)
	equal(t, what, []any{got.bits, got.used, got.fault}, []any{want.Bits, want.Used, none})
	inOneForm(t, what, got.paulis, c.Qubits)
	for _, p := range got.paulis {
		behind := api.Circuit{Qubits: c.Qubits, Bits: c.Bits, Ops: slices.Concat(c.Ops, deeds(p).Ops)}
		left, f := state.Run(behind, in, tape)
		if f != none || !slices.Equal(left.Amps, want.Amps) {
			t.Errorf("%s: %s does not stabilize the state", short(what), p)
		}
	}
	return 0
}

// mostTapes is how many tapes of one run are tried.
const mostTapes = 200

// tapes ranges over the tapes of a run, from the empty one on. Behind one with which
// the run asks for more come those with one outcome more, or with what is none.
func tapes(run func(tape []int) (asks bool)) {
	waiting := [][]int{nil}
	for tried := 0; len(waiting) > 0 && tried < mostTapes; tried++ {
		tape := waiting[0]
		waiting = waiting[1:]
		if run(tape) {
			for _, outcome := range []int{0, 1, 2, -1} {
				waiting = append(waiting, append(slices.Clone(tape), outcome))
			}
		}
	}
}

// runsAll holds Run to all that is promised, from every basis state and with every
// tape.
func runsAll(t *testing.T, c api.Circuit) {
	t.Helper()
	for in := range 1 << c.Qubits {
		tapes(func(tape []int) bool { return runs(t, c, in, tape) == api.ErrTape })
	}
}

// matrix has the exact amplitudes, from every basis state.
func matrix(t *testing.T, c api.Circuit) [][]string {
	t.Helper()
	out, f := state.Matrix(c)
	if f != none {
		t.Fatalf("Matrix of %s: %v", short(c), f)
	}
	return out
}

// images holds Image of a Pauli to doing behind the circuit what the Pauli does ahead.
func images(t *testing.T, c api.Circuit, pauli string) {
	t.Helper()
	got := image(t, c, pauli)
	if !isPauli(got, c.Qubits) {
		t.Fatalf("Image of %s by %s: %q is no Pauli", pauli, short(c), got)
	}
	ahead, behind := then(t, deeds(pauli), c), then(t, c, deeds(got))
	if fmt.Sprint(matrix(t, behind)) != fmt.Sprint(matrix(t, ahead)) {
		t.Errorf("Image of %s by %s: %s", pauli, short(c), got)
	}
}

// formed holds Again's circuit to all that is promised, but for what it does.
func formed(t *testing.T, c api.Circuit) api.Circuit {
	t.Helper()
	d := again(t, c)
	equal(t, "Pure", circ.Pure(d), none)
	equal(t, "stabilizer operations", normalFault(d), none)
	equal(t, "qubits and bits", []int{d.Qubits, d.Bits}, []int{c.Qubits, c.Bits})
	if most := 8 * c.Qubits * (c.Qubits + 1); len(d.Ops) > most {
		t.Errorf("Again of %s: %d operations, at most %d may be", short(c), len(d.Ops), most)
	}
	return d
}

// turns reckons turned amplitudes, each once.
type turns map[string][]string

// turned is an amplitude turned by k sixteenths.
func (turns turns) turned(t *testing.T, amp string, k int) string {
	t.Helper()
	if turns[amp] == nil {
		number, f := ring.Parse(amp)
		if f != none {
			t.Fatalf("no amplitude: %s", short(amp))
		}
		for i := range 16 {
			turns[amp] = append(turns[amp], number.Mul(ring.Root(i)).Text())
		}
	}
	return turns[amp][k]
}

// alike: are all amplitudes of a matrix, turned by k sixteenths, those of another?
func (turns turns) alike(t *testing.T, a, b [][]string, k int) bool {
	t.Helper()
	for i := range a {
		for j := range a[i] {
			if turns.turned(t, a[i][j], k) != b[i][j] {
				return false
			}
		}
	}
	return true
}

// holds holds Again's circuit to all that is promised: in exact amplitudes, from every
// basis state.
func holds(t *testing.T, c api.Circuit) api.Circuit {
	t.Helper()
	d := formed(t, c)
	got, want := matrix(t, d), matrix(t, c)
	known := turns{}
	for k := range 16 {
		if known.alike(t, got, want, k) {
			return d
		}
	}
	t.Errorf("Again of %s does something else: %s", short(c), short(d))
	return d
}

// Modulo prime there are sixteenth roots of one, root among them, and roots of two:
// what is the same in exact numbers is the same there, and what is not is hardly so.
const (
	prime = 15<<27 + 1
	root  = 196396260 // its eighth power is -1
)

func times(a, b uint64) uint64 { return a * b % prime }

// turnedBy is an amplitude turned by k sixteenths.
func turnedBy(a uint64, k int) uint64 {
	for range k {
		a = times(a, root)
	}
	return a
}

// done does a gate to the amplitudes of all basis states.
func done(wave []uint64, op api.Op) {
	controls := 0
	for _, q := range op.Ctl {
		controls |= 1 << q
	}
	bit := 1 << op.Q
	half := times(turnedBy(1, 2)+turnedBy(1, 14), (prime+1)/2)
	turn := turnedBy(1, op.K)
	for x := range wave {
		switch {
		case op.Kind == api.Phase:
			wave[x] = times(wave[x], turn)
		case x&controls != controls || x&bit == 0:
		case op.Kind == api.P:
			wave[x] = times(wave[x], turn)
		case op.Kind == api.X:
			wave[x], wave[x^bit] = wave[x^bit], wave[x]
		case op.Kind == api.H:
			a, b := wave[x^bit], wave[x]
			wave[x^bit], wave[x] = times(a+b, half), times(a+prime-b, half)
		}
	}
}

// leaves is what a circuit leaves of amplitudes of all basis states that are without
// order: what two circuits leave is hardly ever the same, if they don't do the same
// from every basis state.
func leaves(c api.Circuit) []uint64 {
	n := noise(77)
	wave := make([]uint64, 1<<c.Qubits)
	for x := range wave {
		wave[x] = uint64(n.below(prime))
	}
	for _, op := range c.Ops {
		done(wave, op)
	}
	return wave
}

// sameButForATurn: do two circuits leave the same, but for a turn of all by the same
// number of sixteenths?
func sameButForATurn(a, b api.Circuit) bool {
	left, want := leaves(a), leaves(b)
	for k := range 16 {
		other := func(x, y uint64) bool { return turnedBy(x, k) == y }
		if slices.EqualFunc(left, want, other) {
			return true
		}
	}
	return false
}

// holdsModulo holds Again's circuit to all that is promised, modulo the prime.
func holdsModulo(t *testing.T, c api.Circuit) {
	t.Helper()
	if d := formed(t, c); !sameButForATurn(d, c) {
		t.Errorf("Again of %s does something else: %s", short(c), short(d))
	}
}

// imagesModulo holds Image of a Pauli to what it does, modulo the prime.
func imagesModulo(t *testing.T, c api.Circuit, pauli string) {
	t.Helper()
	ahead, behind := c, c
	ahead.Ops = slices.Concat(deeds(pauli).Ops, c.Ops)
	behind.Ops = slices.Concat(c.Ops, deeds(image(t, c, pauli)).Ops)
	if !slices.Equal(leaves(behind), leaves(ahead)) {
		t.Errorf("Image of %s by %s: %s", pauli, short(c), image(t, c, pauli))
	}
}
