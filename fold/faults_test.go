package fold_test

import (
	"math"
	"slices"
	"testing"

	"qloom/api"
	"qloom/circ"
	"qloom/fold"
)

func TestSizesThatCannotBe(t *testing.T) {
	for _, n := range []int{math.MinInt64, -1, 0, api.MaxQubits + 1, math.MaxInt64} {
		refused(t, "qubits", api.Circuit{Qubits: n}, fault(api.ErrQubits, 0))
	}
	for _, n := range []int{math.MinInt64, -1, api.MaxBits + 1, math.MaxInt64} {
		refused(t, "bits", api.Circuit{Qubits: 1, Bits: n}, fault(api.ErrBits, 0))
	}
	many := slices.Repeat([]api.Op{{Kind: api.H}}, api.MaxOps+1)
	refused(t, "too long", api.Circuit{Qubits: 1, Ops: many}, fault(api.ErrLong, 0))
	equal(t, "just not too long", formed(t, api.Circuit{Qubits: 1, Ops: many[1:]}), api.Circuit{Qubits: 1})
}

// Each fault of an operation, among good ones, which would all undo each other.
func TestFaultsOfOperations(t *testing.T) {
	good := []api.Op{{Kind: api.X, Q: 2, Ctl: []int{0, 1}}, {Kind: api.P, K: 1, Q: 1}, {Kind: api.P, K: 15, Q: 1}, {Kind: api.X, Q: 2, Ctl: []int{0, 1}}}
	for _, tried := range []struct {
		code int
		op   api.Op
	}{
		{api.ErrKind, api.Op{}},
		{api.ErrKind, api.Op{Kind: 7, Ctl: []int{0}}},
		{api.ErrAngle, api.Op{Kind: api.P, K: 16}},
		{api.ErrAngle, api.Op{Kind: api.P, K: -1, Q: 1, Ctl: []int{0}}},
		{api.ErrAngle, api.Op{Kind: api.Phase, K: 16}},
		{api.ErrAngle, api.Op{Kind: api.X, K: 8, Q: 1, Ctl: []int{0}}},
		{api.ErrQubit, api.Op{Kind: api.H, Q: 3}},
		{api.ErrQubit, api.Op{Kind: api.X, Q: -1, Ctl: []int{0, 1}}},
		{api.ErrQubit, api.Op{Kind: api.Phase, Q: 1}},
		{api.ErrControl, api.Op{Kind: api.Phase, Ctl: []int{1}}},
		{api.ErrControl, api.Op{Kind: api.Measure, Ctl: []int{1}}},
		{api.ErrControl, api.Op{Kind: api.Reset, Ctl: []int{1}}},
		{api.ErrQubit, api.Op{Kind: api.X, Ctl: []int{3}}},
		{api.ErrQubit, api.Op{Kind: api.P, Ctl: []int{1, -1}}},
		{api.ErrClone, api.Op{Kind: api.X, Ctl: []int{0}}},
		{api.ErrClone, api.Op{Kind: api.H, Q: 2, Ctl: []int{0, 1, 0}}},
		{api.ErrClone, api.Op{Kind: api.P, Q: 2, Ctl: slices.Repeat([]int{0}, 1000)}},
		{api.ErrBit, api.Op{Kind: api.Measure, Bit: 2}},
		{api.ErrBit, api.Op{Kind: api.X, Q: 1, Ctl: []int{0}, Bit: 1}},
		{api.ErrIf, api.Op{Kind: api.X, Q: 1, Ctl: []int{0}, If: []int{0}}},
		{api.ErrIf, api.Op{Kind: api.H, If: []int{1, -3}}},
		{api.ErrIf, api.Op{Kind: api.Phase, If: slices.Repeat([]int{1}, 2*api.MaxBits+1)}},
		{api.ErrUnitary, api.Op{Kind: api.Measure, Bit: 1}},
		{api.ErrUnitary, api.Op{Kind: api.Reset, Q: 2}},
		{api.ErrUnitary, api.Op{Kind: api.X, If: []int{1}}},
		{api.ErrUnitary, api.Op{Kind: api.P, Q: 1, Ctl: []int{0}, If: []int{-2}}},
		{api.ErrUnitary, api.Op{Kind: api.H, Q: 1, If: []int{1, -1}}},
		{api.ErrUnitary, api.Op{Kind: api.Phase, If: []int{2, 2}}},
		{api.ErrUnitary, api.Op{Kind: api.P, If: slices.Repeat([]int{1}, 2*api.MaxBits)}},
	} {
		for at := range len(good) + 1 {
			c := api.Circuit{Qubits: 3, Bits: 2, Ops: slices.Insert(slices.Clone(good), at, tried.op)}
			refused(t, "an operation", c, fault(tried.code, at))
			c.Ops = append(c.Ops, api.Op{Kind: api.Measure})
			refused(t, "a measurement behind it", c, fault(tried.code, at))
			c.Ops = append([]api.Op{{Kind: api.Reset}}, c.Ops...)
			want := fault(tried.code, at+1)
			if tried.code == api.ErrUnitary {
				want.At = 0
			}
			refused(t, "a reset ahead of it", c, want)
		}
	}
}

// Of a circuit that has all faults at once, they are mended one by one: each time
// the next one in the document's order is told.
func TestTheFirstFaultIsTold(t *testing.T) {
	c := api.Circuit{Qubits: 13, Bits: 13, Ops: slices.Repeat([]api.Op{{Kind: api.P, K: 1, Q: 11, Ctl: span(11)}}, api.MaxOps+1)}
	c.Ops[1], c.Ops[4000] = api.Op{Kind: api.Reset}, api.Op{Kind: api.X, If: []int{1}}
	bad := &c.Ops[20]
	bad.K, bad.Q, bad.Ctl, bad.Bit, bad.If = 16, 12, []int{12, 0}, 1, []int{0}
	for i, step := range []struct {
		want api.Fault
		mend func()
	}{
		{fault(api.ErrQubits, 0), func() { c.Qubits = 12 }},
		{fault(api.ErrBits, 0), func() { c.Bits = 12 }},
		{fault(api.ErrLong, 0), func() { c.Ops = c.Ops[1:] }},
		{fault(api.ErrAngle, 19), func() { bad.K = 15 }},
		{fault(api.ErrQubit, 19), func() { bad.Q = 0 }},
		{fault(api.ErrQubit, 19), func() { bad.Ctl = []int{1, 0} }},
		{fault(api.ErrClone, 19), func() { bad.Ctl = []int{1} }},
		{fault(api.ErrBit, 19), func() { bad.Bit = 0 }},
		{fault(api.ErrIf, 19), func() { bad.If = []int{1} }},
		{fault(api.ErrUnitary, 0), func() { c.Ops[0].Kind = api.H }},
		{fault(api.ErrUnitary, 19), func() { bad.If = nil }},
		{fault(api.ErrUnitary, 3999), func() { c.Ops[3999].If = nil }},
	} {
		if _, got := fold.Slim(c); got != step.want {
			t.Fatalf("step %d: %v, want %v", i, got, step.want)
		}
		step.mend()
	}
	equal(t, "all mended", len(formed(t, c).Ops), 4)
}

// Circuits without order, some with odd things in them.
func TestFaultsOfManyCircuits(t *testing.T) {
	seen := map[int]int{}
	for i := range 6000 {
		n := noise(i)
		c := n.circuit(1+n.below(12), n.below(60), 1+n.below(11))
		c.Bits = n.below(13)
		for range n.below(4) {
			n.spoil(&c)
		}
		want := circ.Pure(c)
		seen[want.Code]++
		if want == none {
			formed(t, c)
			continue
		}
		refused(t, "a circuit without order", c, want)
	}
	for code := api.ErrQubits; code <= api.ErrUnitary; code++ {
		equal(t, "a circuit has the fault", seen[code] > 0, true)
	}
	equal(t, "there are circuits without a fault", seen[0] > 1000, true)
}

// spoil puts an odd number somewhere.
func (n *noise) spoil(c *api.Circuit) {
	odd := []int{math.MinInt64, -13, -1, 0, 1, 2, 5, 6, 7, 12, 13, 16, math.MaxInt64}[n.below(13)]
	if len(c.Ops) == 0 || n.below(8) == 0 {
		*[]*int{&c.Qubits, &c.Bits}[n.below(2)] = odd
		return
	}
	op := &c.Ops[n.below(len(c.Ops))]
	switch n.below(6) {
	case 0:
		op.Kind = odd
	case 1:
		op.K = odd
	case 2:
		op.Q = odd
	case 3:
		op.Bit = odd
	case 4:
		op.Ctl = append(slices.Clone(op.Ctl), odd)
	case 5:
		op.If = append(slices.Clone(op.If), odd)
	}
}
