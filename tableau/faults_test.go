package tableau_test

import (
	"fmt"
	"math"
	"slices"
	"testing"

	"qloom/api"
	"qloom/circ"
	"qloom/tableau"
)

// refused holds all calls to faults, beside which nothing is answered. Run begins in
// basis state 0, without a tape; Image is given what is no Pauli.
func refused(t *testing.T, what string, c api.Circuit, run, gates api.Fault) {
	t.Helper()
	equal(t, what+": Run of "+short(c), runOf(c, 0), ran{fault: run})
	gatesRefused(t, what, c, gates)
}

// gatesRefused holds Image and Again to a fault.
func gatesRefused(t *testing.T, what string, c api.Circuit, want api.Fault) {
	t.Helper()
	out, f := tableau.Image(c, "no Pauli")
	equal(t, what+": Image by "+short(c), []any{out, f}, []any{"", want})
	d, f := tableau.Again(c)
	equal(t, what+": Again of "+short(c), []any{d, f}, []any{api.Circuit{}, want})
}

func TestSizesThatCannotBe(t *testing.T) {
	bad := func(what string, c api.Circuit, code int) {
		t.Helper()
		refused(t, what, c, fault(code, 0), fault(code, 0))
	}
	for _, n := range []int{math.MinInt64, -1, 0, api.MaxQubits + 1, math.MaxInt64} {
		bad("qubits", api.Circuit{Qubits: n}, api.ErrQubits)
	}
	for _, n := range []int{math.MinInt64, -1, api.MaxBits + 1, math.MaxInt64} {
		bad("bits", api.Circuit{Qubits: 1, Bits: n}, api.ErrBits)
	}
	many := slices.Repeat([]api.Op{{Kind: api.H}}, api.MaxOps+1)
	bad("too long", api.Circuit{Qubits: 1, Ops: many}, api.ErrLong)
	just := api.Circuit{Qubits: 1, Ops: many[1:]}
	equal(t, "just not too long", runOf(just, 1), ran{paulis: []string{"-Z"}})
	equal(t, "just not too long", image(t, just, "+Y"), "+Y")
	equal(t, "just not too long", formed(t, just), api.Circuit{Qubits: 1})
}

func TestInputsThatCannotBe(t *testing.T) {
	for qubits := 1; qubits <= api.MaxQubits; qubits++ {
		c := api.Circuit{Qubits: qubits, Ops: []api.Op{{Kind: api.H}}}
		for _, in := range []int{math.MinInt64, -1 << 12, -1, 1 << qubits, 1<<qubits + 1, 1 << 32, math.MaxInt64} {
			equal(t, fmt.Sprint(in), runOf(c, in), ran{fault: fault(api.ErrInput, 0)})
		}
		for _, in := range []int{0, 1, 1<<qubits - 1} {
			equal(t, fmt.Sprint(in), runOf(c, in).fault, none)
		}
	}
}

// Each fault of an operation, among good ones: those of Check, that of Pure, and that
// of operations that are no stabilizer operations, behind both.
func TestFaultsOfOperations(t *testing.T) {
	good := []api.Op{{Kind: api.X, Q: 2, Ctl: []int{0}}, {Kind: api.P, K: 8, Q: 1, Ctl: []int{2}}, {Kind: api.P, K: 12, Q: 1}, {Kind: api.H, Q: 2}}
	for _, tried := range []struct {
		code int
		op   api.Op
	}{
		{api.ErrKind, api.Op{}},
		{api.ErrKind, api.Op{Kind: 7, Ctl: []int{0}}},
		{api.ErrAngle, api.Op{Kind: api.P, K: 16}},
		{api.ErrAngle, api.Op{Kind: api.P, K: -8, Q: 1, Ctl: []int{0}}},
		{api.ErrAngle, api.Op{Kind: api.Phase, K: 16}},
		{api.ErrAngle, api.Op{Kind: api.H, K: 4}},
		{api.ErrQubit, api.Op{Kind: api.H, Q: 3}},
		{api.ErrQubit, api.Op{Kind: api.X, Q: -1, Ctl: []int{0, 1}}},
		{api.ErrQubit, api.Op{Kind: api.Phase, Q: 1}},
		{api.ErrControl, api.Op{Kind: api.Phase, Ctl: []int{1}}},
		{api.ErrControl, api.Op{Kind: api.Measure, Ctl: []int{1}}},
		{api.ErrControl, api.Op{Kind: api.Reset, Ctl: []int{1}}},
		{api.ErrQubit, api.Op{Kind: api.X, Ctl: []int{3}}},
		{api.ErrQubit, api.Op{Kind: api.P, Ctl: []int{1, -1}}},
		{api.ErrClone, api.Op{Kind: api.X, Ctl: []int{0}}},
		{api.ErrClone, api.Op{Kind: api.H, Q: 2, Ctl: []int{0, 1, 0}}},
		{api.ErrBit, api.Op{Kind: api.Measure, Bit: 2}},
		{api.ErrBit, api.Op{Kind: api.X, Q: 1, Ctl: []int{0}, Bit: 1}},
		{api.ErrIf, api.Op{Kind: api.X, Q: 1, Ctl: []int{0}, If: []int{0}}},
		{api.ErrIf, api.Op{Kind: api.Measure, If: []int{1, -3}}},
		{api.ErrIf, api.Op{Kind: api.Phase, If: slices.Repeat([]int{1}, 2*api.MaxBits+1)}},
	} {
		for i := range len(good) + 1 {
			c := api.Circuit{Qubits: 3, Bits: 2, Ops: slices.Insert(slices.Clone(good), i, tried.op)}
			refused(t, "an operation", c, fault(tried.code, i), fault(tried.code, i))
			equal(t, "an operation", runOf(c, 8), ran{fault: fault(tried.code, i)})
			c.Ops = slices.Concat([]api.Op{{Kind: api.H, Q: 1, Ctl: []int{0}}, {Kind: api.Measure}}, c.Ops)
			refused(t, "others ahead of it", c, fault(tried.code, i+2), fault(tried.code, i+2))
		}
	}
}

// Which operations are stabilizer operations, and which are not: of each kind, with
// all Ks and numbers of controls.
func TestWhichOperationsMayBe(t *testing.T) {
	for _, conditions := range [][]int{nil, {1}, {-1}, {2, -2}} {
		for kind := api.Phase; kind <= api.Reset; kind++ {
			for controls := range 5 {
				for k := range 16 {
					op := api.Op{Kind: kind, K: k, Q: controls, Ctl: span(controls), If: conditions}
					if kind == api.Phase {
						op.Q = 0
					}
					c := api.Circuit{Qubits: 5, Bits: 2, Ops: []api.Op{{Kind: api.H, Q: 2}, op}}
					if circ.Check(c) != none {
						continue
					}
					mayBe(t, c)
				}
			}
		}
	}
}

// mayBe holds all calls to the faults of a circuit that circ.Check takes.
func mayBe(t *testing.T, c api.Circuit) {
	t.Helper()
	want := normalFault(c)
	equal(t, "Run of "+short(c), runOf(c, 0, 0).fault, want)
	if f := circ.Pure(c); f != none {
		want = f
	}
	_, f := tableau.Image(c, at(c.Qubits, 1, "Y"))
	equal(t, "Image by "+short(c), f, want)
	_, f = tableau.Again(c)
	equal(t, "Again of "+short(c), f, want)
}

// Words of the document: each operation that is none, and its neighbours that are.
func TestOperationsAtTheEdge(t *testing.T) {
	for line, normal := range map[string]bool{
		"phase 1": true, "phase 15": true, "x 0": true, "x 0 on 1": true, "x 0 on 1 2": false, "x 2 on 0 1 3": false,
		"h 0": true, "h 0 on 1": false, "h 0 on 1 2": false,
		"p 0 0": true, "p 1 0": false, "p 2 0": false, "p 3 0": false, "p 4 0": true, "p 6 0": false, "p 8 0": true, "p 10 0": false, "p 12 0": true, "p 14 0": false, "p 15 0": false,
		"p 0 0 on 1": true, "p 4 0 on 1": false, "p 8 0 on 1": true, "p 12 0 on 1": false, "p 2 0 on 1": false,
		"p 0 0 on 1 2": false, "p 8 0 on 1 2": false,
		"measure 0 to 1": true, "reset 0": true, "measure 0 to 1 if 0": true, "reset 0 if !0": true,
		"x 0 on 1 2 if 0": false, "h 0 if 0 !0": true, "p 2 0 if 0 !0": false,
	} {
		c := circuit(t, "qubits 4 bits 2", "h 3", line)
		want := none
		if !normal {
			want = fault(api.ErrNormal, 1)
		}
		equal(t, line, runOf(c, 0, 0).fault, want)
		mayBe(t, c)
	}
}

// Of a circuit that has all faults at once, they are mended one by one: each time the
// next one in the document's order is told.
func TestTheFirstFaultOfRunIsTold(t *testing.T) {
	c := api.Circuit{Qubits: 13, Bits: 13, Ops: slices.Repeat([]api.Op{{Kind: api.X, Q: 11, Ctl: []int{3}}}, api.MaxOps+1)}
	c.Ops[1], c.Ops[4000] = api.Op{Kind: api.Reset}, api.Op{Kind: api.H, Q: 2, Ctl: []int{1}}
	bad := &c.Ops[20]
	*bad = api.Op{Kind: api.P, K: 16, Q: 12, Ctl: []int{12, 0}, Bit: 1, If: []int{0}}
	late := &c.Ops[4090]
	*late = api.Op{Kind: api.Measure, Q: 5}
	in, tape := -1, []int(nil)
	for i, step := range []struct {
		want api.Fault
		mend func()
	}{
		{fault(api.ErrQubits, 0), func() { c.Qubits = 12 }},
		{fault(api.ErrBits, 0), func() { c.Bits = 12 }},
		{fault(api.ErrLong, 0), func() { c.Ops = c.Ops[1:] }},
		{fault(api.ErrAngle, 19), func() { bad.K = 15 }},
		{fault(api.ErrQubit, 19), func() { bad.Q = 0 }},
		{fault(api.ErrQubit, 19), func() { bad.Ctl = []int{1, 0} }},
		{fault(api.ErrClone, 19), func() { bad.Ctl = []int{1} }},
		{fault(api.ErrBit, 19), func() { bad.Bit = 0 }},
		{fault(api.ErrIf, 19), func() { bad.If = []int{1} }},
		{fault(api.ErrInput, 0), func() { in = 4096 }},
		{fault(api.ErrInput, 0), func() { in = 0 }},
		{fault(api.ErrNormal, 19), func() { bad.K = 8 }},
		{fault(api.ErrNormal, 3999), func() { c.Ops[3999].Ctl = nil }},
		{fault(api.ErrTape, 0), func() { tape = []int{-1, 2} }},
		{fault(api.ErrOutcome, 0), func() { tape[0] = 2 }},
		{fault(api.ErrOutcome, 0), func() { tape[0] = 1 }},
		{fault(api.ErrOutcome, 0), func() { tape[0] = 0 }},
		{fault(api.ErrOutcome, 4089), func() { tape = tape[:1] }},
		{fault(api.ErrTape, 4089), func() { tape = []int{0, 1} }},
		{fault(api.ErrOutcome, 4089), func() { tape = []int{0, 0} }},
	} {
		if got := runOf(c, in, tape...); fmt.Sprint(got) != fmt.Sprint(ran{fault: step.want}) {
			t.Fatalf("step %d: %s, want %v", i, short(got), step.want)
		}
		step.mend()
	}
	equal(t, "all mended", []any{runOf(c, in, tape...).fault, runOf(c, in, tape...).used}, []any{none, 2})
}

func TestTheFirstFaultOfGatesIsTold(t *testing.T) {
	c := api.Circuit{Qubits: 13, Bits: 13, Ops: slices.Repeat([]api.Op{{Kind: api.X, Q: 11, Ctl: []int{3}}}, api.MaxOps+1)}
	c.Ops[10], c.Ops[4000] = api.Op{Kind: api.Reset}, api.Op{Kind: api.H, Q: 2, If: []int{1}}
	c.Ops[3], c.Ops[4090] = api.Op{Kind: api.P, K: 4, Q: 2, Ctl: []int{1}}, api.Op{Kind: api.X, Ctl: []int{1, 2}}
	bad := &c.Ops[20]
	*bad = api.Op{Kind: api.P, K: 16, Q: 12, Ctl: []int{12, 0}, Bit: 1, If: []int{0}}
	text := ""
	for i, step := range []struct {
		want api.Fault
		mend func()
	}{
		{fault(api.ErrQubits, 0), func() { c.Qubits = 12 }},
		{fault(api.ErrBits, 0), func() { c.Bits = 12 }},
		{fault(api.ErrLong, 0), func() { c.Ops = c.Ops[1:] }},
		{fault(api.ErrAngle, 19), func() { bad.K = 8 }},
		{fault(api.ErrQubit, 19), func() { bad.Q = 0 }},
		{fault(api.ErrQubit, 19), func() { bad.Ctl = []int{1, 0} }},
		{fault(api.ErrClone, 19), func() { bad.Ctl = []int{1} }},
		{fault(api.ErrBit, 19), func() { bad.Bit = 0 }},
		{fault(api.ErrIf, 19), func() { bad.If = []int{1} }},
		{fault(api.ErrUnitary, 9), func() { c.Ops[9].Kind = api.H }},
		{fault(api.ErrUnitary, 19), func() { bad.If = nil }},
		{fault(api.ErrUnitary, 3999), func() { c.Ops[3999].If = nil }},
		{fault(api.ErrNormal, 2), func() { c.Ops[2].Ctl = nil }},
		{fault(api.ErrNormal, 4089), func() { c.Ops[4089].Ctl = []int{1} }},
	} {
		_, f := tableau.Image(c, text)
		_, g := tableau.Again(c)
		if f != step.want || g != step.want {
			t.Fatalf("step %d: %v and %v, want %v", i, f, g, step.want)
		}
		step.mend()
	}
	for _, text = range []string{"", "+XYZ", "IXYZIXYZIXYZI"} {
		_, f := tableau.Image(c, text)
		equal(t, text, f, fault(api.ErrPauli, 0))
	}
	equal(t, "all mended", known(t, formed(t, c)), known(t, c))
}

// Circuits without order, some with odd things in them.
func TestFaultsOfManyCircuits(t *testing.T) {
	t.Parallel()
	seen := map[int]int{}
	for i := range 6000 {
		n := noise(i)
		c := n.circuit(1+n.below(5), n.below(5), n.below(16), n.below(3))
		if n.below(2) == 0 {
			c = n.gates(1+n.below(5), n.below(16))
			c.Bits = n.below(13)
		}
		for range n.below(4) {
			n.spoil(&c)
		}
		in, text := n.below(max(1, min(40, 3*c.Qubits))), n.pauli(1+n.below(5))
		tape := []int{n.below(2), n.below(3), n.below(2)}[:n.below(4)]
		run, gates, turned := runFault(c, in, tape), gatesFault(c), imageFault(c, text)
		for _, f := range []api.Fault{run, gates, turned} {
			seen[f.Code]++
		}
		equal(t, "Run of "+short(c), runOf(c, in, tape...).fault, run)
		_, f := tableau.Image(c, text)
		equal(t, "Image by "+short(c), f, turned)
		_, f = tableau.Again(c)
		equal(t, "Again of "+short(c), f, gates)
	}
	for code := api.ErrQubits; code <= api.ErrUnitary; code++ {
		equal(t, "a circuit has the fault", code == api.ErrLong || seen[code] > 0, true)
	}
	for _, code := range []int{0, api.ErrInput, api.ErrTape, api.ErrOutcome, api.ErrPauli, api.ErrNormal} {
		equal(t, "a circuit has the fault", seen[code] > 50, true)
	}
}

// spoil puts an odd number somewhere.
func (n *noise) spoil(c *api.Circuit) {
	odd := []int{math.MinInt64, -13, -1, 0, 1, 2, 4, 5, 6, 7, 8, 12, 13, 16, math.MaxInt64}[n.below(15)]
	if len(c.Ops) == 0 || n.below(8) == 0 {
		*[]*int{&c.Qubits, &c.Bits}[n.below(2)] = odd
		return
	}
	op := &c.Ops[n.below(len(c.Ops))]
	switch n.below(6) {
	case 0:
		op.Kind = odd
	case 1:
		op.K = odd
	case 2:
		op.Q = odd
	case 3:
		op.Bit = odd
	case 4:
		op.Ctl = append(slices.Clone(op.Ctl), odd)
	case 5:
		op.If = append(slices.Clone(op.If), odd)
	}
}
