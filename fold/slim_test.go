package fold_test

import (
	"fmt"
	"slices"
	"testing"

	"qloom/api"
)

func TestExamplesOfTheDocument(t *testing.T) {
	c := circuit(t, "qubits 2 bits 0", "p 1 0", "x 1 on 0", "p 2 1", "x 1 on 0", "p 4 0")
	equal(t, "two turns", kinds(holds(t, c), api.P), 2)
	equal(t, "nothing", holds(t, undone(t, c)), api.Circuit{Qubits: 2})
	c = circuit(t, "qubits 1 bits 0", "p 1 0", "x 0", "p 1 0", "x 0")
	equal(t, "a Phase of 1", holds(t, c), circuit(t, "qubits 1 bits 0", "phase 1"))
}

// The model's prime: amplitudes turn and fork in it as they do in exact numbers.
func TestTheModelOfAmplitudes(t *testing.T) {
	equal(t, "half a turn", turned(1, 8), prime-1)
	equal(t, "a whole turn", turned(1, 16), 1)
	for i := range 300 {
		n := noise(i)
		c := n.circuit(1+n.below(3), n.below(8), 2)
		d := copyOf(c)
		if len(d.Ops) > 0 && i%2 == 0 {
			d.Ops = append(d.Ops, d.Ops[0])
		}
		exactly := fmt.Sprint(matrix(t, c)) == fmt.Sprint(matrix(t, d))
		equal(t, short(c), slices.Equal(leaves(c), leaves(d)), exactly)
	}
}

// Without operations nothing is left, of every number of qubits and bits.
func TestNoOperations(t *testing.T) {
	for qubits := 1; qubits <= api.MaxQubits; qubits++ {
		for bits := range api.MaxBits + 1 {
			c := api.Circuit{Qubits: qubits, Bits: bits}
			equal(t, "nothing", formed(t, c), c)
			c.Ops = []api.Op{{Kind: api.H, Q: qubits - 1}}
			equal(t, "an H", formed(t, c), c)
		}
	}
}

// One operation stays, if it does something.
func TestOneOperation(t *testing.T) {
	for controls := range 6 {
		for kind := api.Phase; kind <= api.P; kind++ {
			for k := range 16 {
				op := api.Op{Kind: kind, Q: controls, Ctl: span(controls)}
				if kind == api.Phase || kind == api.P {
					op.K = k
				}
				if kind == api.Phase {
					op.Q, op.Ctl = 0, nil
				}
				c := api.Circuit{Qubits: controls + 1, Bits: 2, Ops: []api.Op{op}}
				want := c
				if op.K == 0 && (kind == api.Phase || kind == api.P) {
					want.Ops = nil
				}
				equal(t, short(c), holds(t, c), want)
			}
		}
	}
}

// rows are all rows of so many gates.
func rows(gates []api.Op, length int, visit func([]api.Op)) {
	row := make([]api.Op, length)
	var place func(i int)
	place = func(i int) {
		if i == length {
			visit(row)
			return
		}
		for _, op := range gates {
			row[i] = op
			place(i + 1)
		}
	}
	place(0)
}

// All short circuits of one qubit, with all gates and some turns.
func TestAllShortCircuitsOfOneQubit(t *testing.T) {
	gates := []api.Op{{Kind: api.X}, {Kind: api.H}, {Kind: api.P, K: 1}, {Kind: api.P, K: 8}, {Kind: api.P, K: 15}, {Kind: api.P}, {Kind: api.Phase, K: 15}}
	for length := range 6 {
		rows(gates, length, func(row []api.Op) {
			holds(t, api.Circuit{Qubits: 1, Ops: row})
		})
	}
}

func TestAllShortCircuitsOfTwoQubits(t *testing.T) {
	gates := []api.Op{
		{Kind: api.X}, {Kind: api.X, Q: 1}, {Kind: api.X, Q: 1, Ctl: []int{0}}, {Kind: api.X, Ctl: []int{1}},
		{Kind: api.H}, {Kind: api.H, Q: 1}, {Kind: api.P, K: 1}, {Kind: api.P, K: 15}, {Kind: api.P, K: 4, Q: 1}, {Kind: api.P, K: 12, Q: 1},
	}
	for length := range 5 {
		rows(gates, length, func(row []api.Op) {
			holds(t, api.Circuit{Qubits: 2, Ops: row})
		})
	}
}

// All pairs and triples of gates with controls: which of them can change places.
func TestAllShortCircuitsWithControls(t *testing.T) {
	var gates []api.Op
	for q := range 3 {
		p, r := (q+1)%3, (q+2)%3
		for _, controls := range [][]int{nil, {p}, {r}, {r, p}} {
			gates = append(gates, api.Op{Kind: api.X, Q: q, Ctl: controls}, api.Op{Kind: api.H, Q: q, Ctl: controls})
		}
		gates = append(gates, api.Op{Kind: api.P, K: 2, Q: q}, api.Op{Kind: api.P, K: 14, Q: q, Ctl: []int{p}}, api.Op{Kind: api.P, K: 7, Q: q, Ctl: []int{p, r}})
	}
	for length := range 4 {
		rows(gates, length, func(row []api.Op) {
			holds(t, api.Circuit{Qubits: 3, Ops: row})
		})
	}
}

// Circuits of gates of every kind, with several controls: the same amplitudes from
// every basis state, in exact numbers.
func TestCircuitsWithControlsDoTheSame(t *testing.T) {
	t.Parallel()
	for i := range 400 {
		n := noise(i)
		qubits := 1 + n.below(5)
		c := n.circuit(qubits, n.below(30), 4)
		c.Bits = n.below(4)
		doesExactly(t, holds(t, c), c)
	}
	n := noise(5)
	for _, qubits := range []int{6, 7} {
		c := n.circuit(qubits, 30, qubits)
		doesExactly(t, holds(t, c), c)
	}
}

func TestPlainCircuitsDoTheSame(t *testing.T) {
	t.Parallel()
	for i := range 400 {
		n := noise(i)
		c := n.plain(1+n.below(5), n.below(40), n.below(5))
		c.Bits = n.below(4)
		doesExactly(t, holds(t, c), c)
	}
	n := noise(9)
	for _, qubits := range []int{6, 7} {
		c := n.plain(qubits, 60, 2)
		doesExactly(t, holds(t, c), c)
	}
}

// More circuits, longer ones, and all numbers of qubits, modulo a prime.
func TestManyCircuitsDoTheSame(t *testing.T) {
	t.Parallel()
	for i := range 6000 {
		n := noise(i)
		qubits := 1 + n.below(4)
		c := n.circuit(qubits, n.below(60), n.below(4))
		if i%2 == 0 {
			c = n.plain(qubits, n.below(100), n.below(4))
		}
		holds(t, c)
	}
	for qubits := 5; qubits <= api.MaxQubits; qubits++ {
		n := noise(qubits)
		holds(t, n.circuit(qubits, 150, qubits))
		holds(t, n.circuit(qubits, 150, 2))
		holds(t, n.plain(qubits, 300, 0))
		holds(t, n.plain(qubits, 300, 1))
	}
}

// Few gates that come again and again: much is joined, and in many rounds.
func TestCircuitsOfFewGatesDoTheSame(t *testing.T) {
	t.Parallel()
	for i := range 6000 {
		n := noise(i)
		qubits := 1 + n.below(4)
		few := n.circuit(qubits, 2+n.below(5), n.below(4)).Ops
		if i%2 == 0 {
			few = n.plain(qubits, 2+n.below(5), 3).Ops
		}
		c := api.Circuit{Qubits: qubits}
		for range n.below(80) {
			c.Ops = append(c.Ops, few[n.below(len(few))])
		}
		holds(t, c)
	}
}

// Gates that stay as they are keep their controls in order, and stay where they are.
func TestWhatCannotBeShorterStays(t *testing.T) {
	for _, c := range []api.Circuit{
		circuit(t, "qubits 3 bits 1", "h 0", "x 1 on 0", "p 3 1", "h 2 on 1 0", "p 5 0 on 2 1", "x 0 on 2 1", "p 4 0"),
		circuit(t, "qubits 2 bits 0", "x 1 on 0", "x 0 on 1", "x 1 on 0"),
		circuit(t, "qubits 1 bits 0", "h 0", "p 2 0", "h 0", "p 2 0", "h 0", "phase 9"),
	} {
		equal(t, "stays", holds(t, c), c)
	}
}

// As many qubits and operations as there may be.
func TestGreatCircuits(t *testing.T) {
	t.Parallel()
	for i := range 3 {
		n := noise(i)
		holds(t, n.circuit(api.MaxQubits, api.MaxOps, 11))
		holds(t, n.plain(api.MaxQubits, api.MaxOps, i))
		holds(t, n.plain(2, api.MaxOps, i))
		holds(t, n.plain(1, api.MaxOps, 3*i))
	}
	for _, op := range []api.Op{{Kind: api.X}, {Kind: api.H}, {Kind: api.P, K: 5}, {Kind: api.Phase, K: 5}, {Kind: api.H, Q: 11, Ctl: span(11)}, {Kind: api.P, K: 1, Q: 11, Ctl: span(11)}} {
		c := api.Circuit{Qubits: api.MaxQubits, Bits: api.MaxBits, Ops: slices.Repeat([]api.Op{op}, api.MaxOps)}
		equal(t, "many times", formed(t, c), api.Circuit{Qubits: api.MaxQubits, Bits: api.MaxBits})
		c.Ops = c.Ops[1:]
		equal(t, "once less", len(formed(t, c).Ops), 1)
	}
}

// Gates that all change places with each other, none twice: each one is looked for
// among all of the others.
func TestManyGatesThatChangePlaces(t *testing.T) {
	c := api.Circuit{Qubits: api.MaxQubits}
	for set := range 1 << 11 {
		op := api.Op{Kind: api.X, Q: 11}
		for q := range 11 {
			if set>>q&1 == 1 {
				op.Ctl = append(op.Ctl, q)
			}
		}
		c.Ops = append(c.Ops, op)
	}
	equal(t, "none twice", formed(t, c), c)
	equal(t, "all twice", formed(t, then(t, c, c)), api.Circuit{Qubits: api.MaxQubits})
	for i := range c.Ops {
		slices.Reverse(c.Ops[i].Ctl)
	}
	slices.Reverse(c.Ops)
	equal(t, "none twice", holds(t, c), c)
}
