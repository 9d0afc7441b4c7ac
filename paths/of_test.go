package paths_test

import (
	"slices"
	"testing"

	"qloom/api"
	"qloom/circ"
	"qloom/paths"
	"qloom/state"
)

func TestOfTheExamples(t *testing.T) {
	equal(t, "h h", of(t, circuit(t, "qubits 1 bits 0", "h 0", "h 0")), sum(2, 2, "8 v0v1 + 8 v1v2", "v2"))
	equal(t, "h p h", of(t, circuit(t, "qubits 1 bits 0", "h 0", "p 4 0", "h 0")), sum(2, 2, "4 v1 + 8 v0v1 + 8 v1v2", "v2"))
}

// Each kind of operation, with and without controls, behind others.
func TestOfEachOperation(t *testing.T) {
	for _, test := range []struct {
		lines []string
		want  api.Sum
	}{
		{nil, nothing(3)},
		{[]string{"phase 5"}, sum(0, 0, "5 1", "v0", "v1", "v2")},
		{[]string{"phase 0"}, nothing(3)},
		{[]string{"phase 9", "phase 7"}, nothing(3)},
		{[]string{"phase 9", "phase 8"}, sum(0, 0, "1 1", "v0", "v1", "v2")},
		{[]string{"p 3 1"}, sum(0, 0, "3 v1", "v0", "v1", "v2")},
		{[]string{"p 0 1"}, nothing(3)},
		{[]string{"p 3 1", "p 13 1"}, nothing(3)},
		{[]string{"x 1"}, sum(0, 0, "0", "v0", "1 + v1", "v2")},
		{[]string{"x 1", "x 1"}, nothing(3)},
		{[]string{"x 1 on 2"}, sum(0, 0, "0", "v0", "v1 + v2", "v2")},
		{[]string{"x 1 on 2 0"}, sum(0, 0, "0", "v0", "v1 + v0v2", "v2")},
		{[]string{"x 1 on 2 0", "x 1 on 0 2"}, nothing(3)},
		{[]string{"x 0", "x 1", "x 2 on 0 1"}, sum(0, 0, "0", "1 + v0", "1 + v1", "1 + v0 + v1 + v2 + v0v1")},
		{[]string{"x 1 on 0", "x 2 on 0 1"}, sum(0, 0, "0", "v0", "v0 + v1", "v0 + v2 + v0v1")},
		{[]string{"x 1 on 0", "x 0 on 1", "x 1 on 0"}, sum(0, 0, "0", "v1", "v0", "v2")},
		{[]string{"h 1"}, sum(1, 1, "8 v1v3", "v0", "v3", "v2")},
		{[]string{"x 1", "h 1"}, sum(1, 1, "8 v3 + 8 v1v3", "v0", "v3", "v2")},
		{[]string{"x 1 on 0 2", "h 1"}, sum(1, 1, "8 v1v3 + 8 v0v2v3", "v0", "v3", "v2")},
		{[]string{"h 1", "h 0"}, sum(2, 2, "8 v0v4 + 8 v1v3", "v4", "v3", "v2")},
		{[]string{"h 1", "x 0 on 1", "h 1"}, sum(2, 2, "8 v1v3 + 8 v3v4", "v0 + v3", "v4", "v2")},
		{[]string{"x 0", "p 5 0"}, sum(0, 0, "5 1 + 11 v0", "1 + v0", "v1", "v2")},
		{[]string{"x 0 on 1", "p 3 0"}, sum(0, 0, "3 v0 + 3 v1 + 10 v0v1", "v0 + v1", "v1", "v2")},
		{[]string{"x 0 on 1", "p 4 0"}, sum(0, 0, "4 v0 + 4 v1 + 8 v0v1", "v0 + v1", "v1", "v2")},
		{[]string{"x 0 on 1", "p 8 0"}, sum(0, 0, "8 v0 + 8 v1", "v0 + v1", "v1", "v2")},
		{[]string{"x 0 on 1", "x 0 on 2", "p 1 0"}, sum(0, 0, "1 v0 + 1 v1 + 1 v2 + 14 v0v1 + 14 v0v2 + 14 v1v2 + 4 v0v1v2", "v0 + v1 + v2", "v1", "v2")},
		{[]string{"x 0 on 1 2", "p 1 0"}, sum(0, 0, "1 v0 + 1 v1v2 + 14 v0v1v2", "v0 + v1v2", "v1", "v2")},
		{[]string{"x 0", "x 0 on 1", "x 0 on 2", "p 1 0"}, sum(0, 0, "1 1 + 15 v0 + 15 v1 + 15 v2 + 2 v0v1 + 2 v0v2 + 2 v1v2 + 12 v0v1v2", "1 + v0 + v1 + v2", "v1", "v2")},
	} {
		got := of(t, circuit(t, append([]string{"qubits 3 bits 0"}, test.lines...)...))
		equal(t, short(test.lines), got, test.want)
		equal(t, short(test.lines), paths.Check(got), none)
	}
}

// Four variables in one output, turned by one sixteenth: a product of all of them by 8.
func TestTurnsOfLongSums(t *testing.T) {
	c := api.Circuit{Qubits: 5, Bits: 7, Ops: []api.Op{{Kind: api.X, Ctl: []int{1}}, {Kind: api.X, Ctl: []int{2}}, {Kind: api.X, Ctl: []int{3}}, {Kind: api.X, Ctl: []int{4}}, {Kind: api.P, K: 1}}}
	s := of(t, c)
	weights := []int{0, 1, 14, 4, 8}
	equal(t, "all but the longest product", len(s.Phase), 5+10+10+5)
	for _, term := range s.Phase {
		equal(t, short(term), term.K, weights[len(term.Vars)])
	}
}

// Circuits without order, held to the values that their phases and outputs have.
func TestOfManyCircuits(t *testing.T) {
	for i := range 3000 {
		n := noise(i)
		qubits := 1 + n.below(5)
		c := n.circuit(qubits, n.below(25), 10-qubits)
		want, f := modelCircuit(c)
		got, g := paths.Of(c)
		equal(t, short(c), g, f)
		equal(t, short(c), got, want)
		equal(t, short(c), f != none || paths.Check(got) == none, true)
	}
}

// What follows: Of's sum tells the amplitudes that the circuit has.
func TestOfTellsTheAmplitudes(t *testing.T) {
	for i := range 700 {
		n := noise(9000 + i)
		qubits := 1 + i%5
		c := n.circuit(qubits, n.below(30), 2+i%9)
		s, f := paths.Of(c)
		if f != none {
			equal(t, "too many", f.Code, api.ErrMany)
			continue
		}
		for in := range 1 << qubits {
			shot, f := state.Run(c, in, nil)
			equal(t, "Run", f, none)
			equal(t, short(c), amps(t, s, in), shot.Amps)
		}
	}
}

// So it is with as many qubits, and as many Hs, as can be told.
func TestOfTellsTheAmplitudesOfWideCircuits(t *testing.T) {
	for i := range 6 {
		n := noise(500 + i)
		c := n.circuit(12, 60, 12)
		s, f := paths.Of(c)
		if f != none {
			equal(t, "too many", f.Code, api.ErrMany)
			continue
		}
		in := n.below(1 << 12)
		shot, f := state.Run(c, in, nil)
		equal(t, "Run", f, none)
		equal(t, short(c), slices.Equal(amps(t, s, in), shot.Amps), true)
	}
}

func TestFaultsOfPure(t *testing.T) {
	refusedOf(t, "no circuit", api.Circuit{}, fault(api.ErrQubits, 0))
	refusedOf(t, "qubits", api.Circuit{Qubits: 13}, fault(api.ErrQubits, 0))
	refusedOf(t, "bits", api.Circuit{Qubits: 1, Bits: 13}, fault(api.ErrBits, 0))
	refusedOf(t, "operations", api.Circuit{Qubits: 1, Ops: make([]api.Op, 4097)}, fault(api.ErrLong, 0))
	refusedOf(t, "a kind", api.Circuit{Qubits: 1, Ops: make([]api.Op, 4096)}, fault(api.ErrKind, 0))
	for _, op := range []api.Op{
		{Kind: 7}, {Kind: api.H, K: 1}, {Kind: api.P, K: 16}, {Kind: api.X, Q: 2}, {Kind: api.Phase, Ctl: []int{0}}, {Kind: api.X, Ctl: []int{2}},
		{Kind: api.X, Ctl: []int{0}}, {Kind: api.X, Bit: 1}, {Kind: api.X, If: []int{0}}, {Kind: api.Measure}, {Kind: api.Reset}, {Kind: api.X, If: []int{1}}, {Kind: api.Phase, If: []int{-1}},
	} {
		c := api.Circuit{Qubits: 2, Bits: 1, Ops: []api.Op{{Kind: api.X}, op, {Kind: api.H, Ctl: []int{1}}}}
		f := circ.Pure(c)
		equal(t, "Pure has a fault", f.Code != 0 && f.At == 1, true)
		refusedOf(t, "a fault of Pure", c, f)
		c.Ops[0], c.Ops[2] = c.Ops[2], c.Ops[0]
		refusedOf(t, "Pure's comes ahead of ErrControl", c, f)
	}
}

func TestControls(t *testing.T) {
	for _, line := range []string{"h 0 on 1", "h 0 on 1 2", "p 1 0 on 1", "p 0 0 on 1", "p 8 0 on 1 2", "x 0 on 1 2 3", "x 0 on 3 2 1 4"} {
		refusedOf(t, line, circuit(t, "qubits 5 bits 0", line), fault(api.ErrControl, 0))
		refusedOf(t, line, circuit(t, "qubits 5 bits 0", "x 0 on 1 2", "h 0", line, "h 0 on 1"), fault(api.ErrControl, 2))
	}
	for _, line := range []string{"x 0", "x 0 on 1", "x 0 on 1 2", "h 0", "p 1 0", "phase 1"} {
		of(t, circuit(t, "qubits 5 bits 0", line))
	}
}

// ErrControl comes ahead of ErrMany, wherever they stand; Pure's ahead of both.
func TestOrderOfOf(t *testing.T) {
	ops := slices.Repeat([]api.Op{{Kind: api.H}}, 51)
	refusedOf(t, "many", api.Circuit{Qubits: 2, Ops: ops}, fault(api.ErrMany, 50))
	ops = append(ops, api.Op{Kind: api.P, Ctl: []int{1}})
	refusedOf(t, "a control", api.Circuit{Qubits: 2, Ops: ops}, fault(api.ErrControl, 51))
	ops = append(ops, api.Op{Kind: api.Reset})
	refusedOf(t, "a reset", api.Circuit{Qubits: 2, Ops: ops}, fault(api.ErrUnitary, 52))
	ops = append(ops, api.Op{Kind: api.X, Q: 2})
	refusedOf(t, "a qubit", api.Circuit{Qubits: 2, Ops: ops}, fault(api.ErrQubit, 53))
}

func TestAsManyForks(t *testing.T) {
	for _, between := range []int{0, 3} {
		c := api.Circuit{Qubits: 12}
		for i := range 50 {
			c.Ops = append(c.Ops, api.Op{Kind: api.H, Q: i % 12})
			c.Ops = append(c.Ops, slices.Repeat([]api.Op{{Kind: api.X, Q: i % 12}}, between)...)
		}
		s := of(t, c)
		equal(t, "fifty", []int{s.Vars, s.Half, s.In}, []int{50, 50, 12})
		equal(t, "no fault", paths.Check(s), none)
		c.Ops = append(c.Ops, api.Op{Kind: api.X}, api.Op{Kind: api.H, Q: 5}, api.Op{Kind: api.H})
		refusedOf(t, "one more", c, fault(api.ErrMany, 50*(1+between)+1))
	}
}

// gather are operations that make output 0 a sum of so many single variables, of as
// many qubits as there are.
func gather(singles int) []api.Op {
	var ops []api.Op
	for i := 1; i < singles; i++ {
		q := 1 + (i-1)%11
		if i > 11 {
			ops = append(ops, api.Op{Kind: api.H, Q: q})
		}
		ops = append(ops, api.Op{Kind: api.X, Ctl: []int{q}})
	}
	return ops
}

func TestAsManyProducts(t *testing.T) {
	c := api.Circuit{Qubits: 12, Ops: gather(24)}
	s := of(t, c)
	equal(t, "as many as may be", len(s.Out[0]), 24)
	equal(t, "no fault", paths.Check(s), none)
	c.Ops = append(c.Ops, api.Op{Kind: api.X})
	refusedOf(t, "one more", c, fault(api.ErrMany, len(c.Ops)-1))
	c.Ops = gather(24)
	c.Ops = append(c.Ops, api.Op{Kind: api.X, Ctl: []int{3, 4}}, api.Op{Kind: api.X, Ctl: []int{3, 4}})
	refusedOf(t, "one more, though not at the end", c, fault(api.ErrMany, len(c.Ops)-2))
	c.Ops = append(gather(24), api.Op{Kind: api.X, Ctl: []int{1}})
	equal(t, "one less", len(of(t, c).Out[0]), 23)
	c.Ops = append(c.Ops, api.Op{Kind: api.X}, api.Op{Kind: api.X}, api.Op{Kind: api.X, Ctl: []int{2, 3}})
	equal(t, "and more", len(of(t, c).Out[0]), 24)
	c.Ops = append(c.Ops, api.Op{Kind: api.X, Q: 1, Ctl: []int{0}})
	refusedOf(t, "in another output", c, fault(api.ErrMany, len(c.Ops)-1))
}

// Products of sums: 5 times 5 products are more than may be, 4 times 6 are not.
func TestProductsOfOutputs(t *testing.T) {
	make := func(first, second int) api.Circuit {
		c := api.Circuit{Qubits: 12}
		for q := 1; q < first; q++ {
			c.Ops = append(c.Ops, api.Op{Kind: api.X, Ctl: []int{q}})
		}
		for q := first + 1; q < first+second; q++ {
			c.Ops = append(c.Ops, api.Op{Kind: api.X, Q: first, Ctl: []int{q}})
		}
		c.Ops = append(c.Ops, api.Op{Kind: api.H, Q: 11}, api.Op{Kind: api.X, Q: 11, Ctl: []int{first, 0}})
		return c
	}
	equal(t, "one times 10, and one", len(of(t, make(1, 10)).Out[11]), 11)
	equal(t, "4 times 5, and one", len(of(t, make(4, 5)).Out[11]), 21)
	c := make(5, 5)
	refusedOf(t, "5 times 5, and one", c, fault(api.ErrMany, len(c.Ops)-1))
	c = make(4, 6)
	refusedOf(t, "4 times 6, and one", c, fault(api.ErrMany, len(c.Ops)-1))
}

// full is a circuit whose phase has just as many terms as may be. Turned by 4, a sum
// of 24 single variables has 24 of these and their 276 pairs; but 12 of the pairs stand
// in the phase already, by Hs, and go. Then each H on one qubit makes one more.
func full() api.Circuit {
	c := api.Circuit{Qubits: 12, Ops: append(gather(24), api.Op{Kind: api.P, K: 4})}
	c.Ops = append(c.Ops, slices.Repeat([]api.Op{{Kind: api.H, Q: 1}}, 12)...)
	return c
}

func TestAsManyTerms(t *testing.T) {
	c := full()
	s := of(t, c)
	equal(t, "as many as may be", []int{len(s.Phase), s.Vars}, []int{300, 24})
	equal(t, "no fault", paths.Check(s), none)
	at := len(c.Ops)
	for _, op := range []api.Op{{Kind: api.H, Q: 1}, {Kind: api.H, Q: 2}, {Kind: api.Phase, K: 1}, {Kind: api.P, K: 15, Q: 1}, {Kind: api.P, K: 8, Q: 1}} {
		d := copyCircuit(c)
		d.Ops = append(d.Ops, api.Op{Kind: api.X, Q: 3}, api.Op{Kind: api.P, Q: 1}, op)
		refusedOf(t, "one more", d, fault(api.ErrMany, at+2))
		op.K = (16 - op.K) % 16
		d.Ops = append(d.Ops, op)
		refusedOf(t, "one more, though not at the end", d, fault(api.ErrMany, at+2))
	}
	c.Ops = append(c.Ops, api.Op{Kind: api.P, K: 12, Q: 2}, api.Op{Kind: api.Phase, K: 1})
	equal(t, "one less, and another", len(of(t, c).Phase), 300)
	c.Ops = append(c.Ops, api.Op{Kind: api.P, K: 12, Q: 2})
	refusedOf(t, "and what was less is more", c, fault(api.ErrMany, len(c.Ops)-1))
}

// Far more terms than may be are told as soon as one more.
func TestFarTooManyTerms(t *testing.T) {
	for k := 1; k < 16; k++ {
		c := api.Circuit{Qubits: 12, Ops: append(gather(24), api.Op{Kind: api.P, K: k})}
		if k%4 == 0 {
			of(t, c)
			continue
		}
		refusedOf(t, "turned by less than 4", c, fault(api.ErrMany, len(c.Ops)-1))
	}
}
