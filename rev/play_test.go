package rev_test

import (
	"math"
	"slices"
	"testing"

	"qloom/api"
	"qloom/circ"
	"qloom/rev"
	"qloom/state"
)

func TestPlayOfSmallCircuits(t *testing.T) {
	for _, s := range []struct {
		lines []string
		want  []int
	}{
		{[]string{"qubits 1 bits 0"}, []int{0, 1}},
		{[]string{"qubits 1 bits 12", "x 0"}, []int{1, 0}},
		{[]string{"qubits 2 bits 0", "x 1"}, []int{2, 3, 0, 1}},
		{[]string{"qubits 2 bits 0", "x 1 on 0"}, []int{0, 3, 2, 1}},
		{[]string{"qubits 2 bits 1", "x 1 on 0", "x 0 on 1", "x 1 on 0"}, []int{0, 2, 1, 3}},
		{[]string{"qubits 3 bits 0", "x 0 on 2 1"}, []int{0, 1, 2, 3, 4, 5, 7, 6}},
		{[]string{"qubits 3 bits 0", "x 2 on 0 1", "x 1 on 0", "x 0"}, []int{1, 2, 3, 4, 5, 6, 7, 0}},
	} {
		c := circuit(t, s.lines...)
		for in, want := range s.want {
			equal(t, short(s.lines), play(t, c, in), want)
		}
	}
}

// Run leaves the amplitude 1 of the basis state that Play tells.
func TestPlayDoesWhatRunDoes(t *testing.T) {
	seed := noise(8)
	for i := range 100 {
		c := seed.xs(1+i%6, i%30)
		for in := range 1 << c.Qubits {
			want, _ := modelPlay(c, in)
			equal(t, short(c), play(t, c, in), want)
			shot, f := state.Run(c, in, nil)
			equal(t, "Run", f, none)
			equal(t, short(c), slices.Index(shot.Amps, "1"), want)
		}
	}
}

func TestPlayOfTheGreatestCircuits(t *testing.T) {
	seed := noise(9)
	c := seed.xs(api.MaxQubits, api.MaxOps)
	for _, in := range []int{0, 1, 2047, 2048, 4094, 4095} {
		want, _ := modelPlay(c, in)
		equal(t, "12 qubits", play(t, c, in), want)
	}
	back, f := circ.Inverse(c)
	equal(t, "Inverse", f, none)
	for in := range 1 << api.MaxQubits {
		equal(t, "there and back", play(t, back, play(t, c, in)), in)
	}
}

// refused holds Play to a fault, with no basis state beside it.
func refused(t *testing.T, c api.Circuit, in int, want api.Fault) {
	t.Helper()
	got, f := rev.Play(c, in)
	equal(t, short(c), []any{got, f}, []any{0, want})
}

func TestPlayOfInputs(t *testing.T) {
	for qubits := 1; qubits <= api.MaxQubits; qubits++ {
		c := api.Circuit{Qubits: qubits}
		equal(t, "the first", play(t, c, 0), 0)
		equal(t, "the last", play(t, c, 1<<qubits-1), 1<<qubits-1)
		for _, in := range []int{math.MinInt64, -1, 1 << qubits, 1<<qubits + 1, math.MaxInt64} {
			refused(t, c, in, fault(api.ErrInput, 0))
		}
	}
}

func TestPlayOfOtherOperations(t *testing.T) {
	for _, line := range []string{"phase 3", "phase 0", "h 0", "h 1 on 0", "p 8 0", "p 0 1", "measure 0 to 1", "reset 1", "x 0 if 0", "x 1 on 0 if !1", "x 1 if 0 !0", "measure 1 to 0 if 1"} {
		refused(t, circuit(t, "qubits 2 bits 2", line), 1, fault(api.ErrKind, 0))
		refused(t, circuit(t, "qubits 2 bits 2", "x 1", "x 0 on 1", line, "h 0", "x 0"), 3, fault(api.ErrKind, 2))
	}
	c := circuit(t, "qubits 2 bits 2", "x 1", "x 0 on 1")
	c.Ops[1].If = []int{}
	equal(t, "no conditions in a list", play(t, c, 0), 3)
}

// Of several faults the first is told: Check's, the input, an operation.
func TestPlayTellsTheFirstFault(t *testing.T) {
	c := circuit(t, "qubits 2 bits 1", "x 0", "h 0", "x 1 if 0")
	refused(t, c, 4, fault(api.ErrInput, 0))
	refused(t, c, 3, fault(api.ErrKind, 1))
	c.Ops[2].Q = 2
	refused(t, c, 4, fault(api.ErrQubit, 2))
	refused(t, c, 3, fault(api.ErrQubit, 2))
	c.Ops[0].Kind = 9
	refused(t, c, -1, fault(api.ErrKind, 0))
	c.Bits = 13
	refused(t, c, -1, fault(api.ErrBits, 0))
	refused(t, api.Circuit{}, 0, fault(api.ErrQubits, 0))
	refused(t, api.Circuit{Qubits: 1, Ops: make([]api.Op, api.MaxOps+1)}, 0, fault(api.ErrLong, 0))
	refused(t, api.Circuit{Qubits: 2, Ops: []api.Op{{Kind: api.X, Ctl: []int{1, 1}}}}, 0, fault(api.ErrClone, 0))
	refused(t, api.Circuit{Qubits: 2, Ops: []api.Op{{Kind: api.X, Ctl: []int{0}}}}, 0, fault(api.ErrClone, 0))
}

func TestPlayAsTheDocumentSays(t *testing.T) {
	seed := noise(10)
	for i := range 500 {
		c := seed.xs(1+i%4, 1+i%9)
		op := &c.Ops[seed.below(len(c.Ops))]
		switch seed.below(6) {
		case 0:
			op.Kind = seed.odd()
		case 1:
			op.Q = seed.odd()
		case 2:
			op.Ctl = append(op.Ctl, seed.odd())
		case 3:
			op.If = append(op.If, seed.odd())
		case 4:
			op.K, op.Bit = seed.odd(), seed.odd()
		}
		for _, in := range []int{seed.odd(), seed.below(1 << c.Qubits)} {
			want, wantFault := modelPlay(c, in)
			got, f := rev.Play(c, in)
			equal(t, short(c), []any{got, f}, []any{want, wantFault})
		}
	}
}
