package lower_test

import (
	"math"
	"slices"
	"testing"

	"qloom/api"
	"qloom/circ"
	"qloom/lower"
)

func TestSizesThatCannotBe(t *testing.T) {
	for _, n := range []int{math.MinInt64, -1, 0, api.MaxQubits + 1, math.MaxInt64} {
		refused(t, "qubits", api.Circuit{Qubits: n}, fault(api.ErrQubits, 0))
	}
	for _, n := range []int{math.MinInt64, -1, api.MaxBits + 1, math.MaxInt64} {
		refused(t, "bits", api.Circuit{Qubits: 1, Bits: n}, fault(api.ErrBits, 0))
	}
	many := slices.Repeat([]api.Op{{Kind: api.H}}, api.MaxOps+1)
	refused(t, "too long", api.Circuit{Qubits: 1, Ops: many}, fault(api.ErrLong, 0))
	equal(t, "just not too long", formed(t, api.Circuit{Qubits: 1, Ops: many[1:]}).Ops, many[1:])
}

// Each fault of an operation, among good ones with and without controls.
func TestFaultsOfOperations(t *testing.T) {
	good := []api.Op{{Kind: api.X, Q: 2, Ctl: []int{0, 1}}, {Kind: api.Measure, Bit: 1}, {Kind: api.P, K: 1, Q: 1, Ctl: []int{0}}}
	for _, tried := range []struct {
		code int
		op   api.Op
	}{
		{api.ErrKind, api.Op{}},
		{api.ErrKind, api.Op{Kind: 7, Ctl: []int{0}}},
		{api.ErrAngle, api.Op{Kind: api.P, K: 16}},
		{api.ErrAngle, api.Op{Kind: api.P, K: -1, Q: 1, Ctl: []int{0}}},
		{api.ErrAngle, api.Op{Kind: api.X, K: 8, Q: 1, Ctl: []int{0}}},
		{api.ErrQubit, api.Op{Kind: api.H, Q: 3}},
		{api.ErrQubit, api.Op{Kind: api.X, Q: -1, Ctl: []int{0, 1}}},
		{api.ErrQubit, api.Op{Kind: api.Phase, Q: 1}},
		{api.ErrControl, api.Op{Kind: api.Phase, Ctl: []int{1}}},
		{api.ErrControl, api.Op{Kind: api.Measure, Ctl: []int{1}}},
		{api.ErrControl, api.Op{Kind: api.Reset, Ctl: []int{1}}},
		{api.ErrQubit, api.Op{Kind: api.X, Ctl: []int{3}}},
		{api.ErrQubit, api.Op{Kind: api.P, Ctl: []int{1, -1}}},
		{api.ErrClone, api.Op{Kind: api.X, Ctl: []int{0}}},
		{api.ErrClone, api.Op{Kind: api.H, Q: 2, Ctl: []int{0, 1, 0}}},
		{api.ErrClone, api.Op{Kind: api.P, Q: 2, Ctl: slices.Repeat([]int{0}, 1000)}},
		{api.ErrBit, api.Op{Kind: api.Measure, Bit: 2}},
		{api.ErrBit, api.Op{Kind: api.X, Q: 1, Ctl: []int{0}, Bit: 1}},
		{api.ErrIf, api.Op{Kind: api.X, Q: 1, Ctl: []int{0}, If: []int{0}}},
		{api.ErrIf, api.Op{Kind: api.H, If: []int{1, -3}}},
		{api.ErrIf, api.Op{Kind: api.Phase, If: slices.Repeat([]int{1}, 2*api.MaxBits+1)}},
	} {
		for at := range len(good) + 1 {
			c := api.Circuit{Qubits: 3, Bits: 2, Ops: slices.Insert(slices.Clone(good), at, tried.op)}
			refused(t, "an operation", c, fault(tried.code, at))
		}
	}
}

// The most operations, and one more, with each number of those that have controls.
func TestTooMany(t *testing.T) {
	wide := []api.Op{
		{Kind: api.X, Q: 1, Ctl: []int{0}}, {Kind: api.P, K: 0, Q: 1, Ctl: []int{0}}, {Kind: api.P, K: 3, Q: 1, Ctl: []int{0}},
		{Kind: api.H, Q: 0, Ctl: []int{2, 1}}, {Kind: api.X, Q: 3, Ctl: []int{0, 1, 2}, If: []int{1}}, {Kind: api.X, Q: 7, Ctl: span(7)},
	}
	for _, op := range wide {
		for controlled := range 19 {
			most := api.MaxOps - 220*controlled
			c := api.Circuit{Qubits: 8, Bits: 1, Ops: slices.Repeat([]api.Op{op}, controlled)}
			for len(c.Ops) < most {
				c.Ops = append(c.Ops, api.Op{Kind: api.Phase, K: 1})
			}
			formed(t, c)
			if controlled > 0 {
				c.Ops = slices.Insert(c.Ops, len(c.Ops)/2, api.Op{Kind: api.Reset, Q: 1})
				refused(t, "one more", c, fault(api.ErrMany, 0))
			}
		}
		c := api.Circuit{Qubits: 8, Bits: 1, Ops: slices.Repeat([]api.Op{op}, 19)}
		refused(t, "nineteen with controls", c, fault(api.ErrMany, 0))
	}
}

// Every gate with every number of controls, among all numbers of qubits.
func TestRoom(t *testing.T) {
	for controls := range api.MaxQubits {
		for _, op := range gates(controls) {
			for qubits := controls + 1; qubits <= api.MaxQubits; qubits++ {
				if c := one(qubits, 0, op); qubits+wants(op) > 12 {
					refused(t, "no room", c, fault(api.ErrRoom, 0))
				} else {
					formed(t, c)
				}
			}
		}
	}
}

// The one that wants the most says whether there is room, wherever it stands.
func TestRoomForSeveral(t *testing.T) {
	small := []api.Op{{Kind: api.X, Q: 1, Ctl: []int{0}}, {Kind: api.P, K: 1, Q: 0, Ctl: []int{1}}, {Kind: api.Measure}, {Kind: api.H, Q: 4, Ctl: span(4)}}
	great := api.Op{Kind: api.P, K: 6, Q: 4, Ctl: span(4)}
	for at := range len(small) + 1 {
		c := api.Circuit{Qubits: 9, Bits: 1, Ops: slices.Insert(slices.Clone(small), at, great)}
		equal(t, "just room", formed(t, c).Qubits, 12)
		c.Qubits = 10
		refused(t, "no room", c, fault(api.ErrRoom, 0))
	}
	equal(t, "room without it", formed(t, api.Circuit{Qubits: 10, Bits: 1, Ops: small}).Qubits, 11)
}

// Of a circuit that has all faults at once, they are mended one by one: each time
// the next one in the document's order is told.
func TestTheFirstFaultIsTold(t *testing.T) {
	c := api.Circuit{Qubits: 13, Bits: 13, Ops: slices.Repeat([]api.Op{{Kind: api.P, K: 1, Q: 11, Ctl: span(11)}}, api.MaxOps+1)}
	bad := &c.Ops[20]
	bad.K, bad.Q, bad.Ctl, bad.If = 16, 12, []int{12, 0}, []int{0}
	for i, step := range []struct {
		want api.Fault
		mend func()
	}{
		{fault(api.ErrQubits, 0), func() { c.Qubits = 12 }},
		{fault(api.ErrBits, 0), func() { c.Bits = 12 }},
		{fault(api.ErrLong, 0), func() { c.Ops = c.Ops[1:] }},
		{fault(api.ErrAngle, 19), func() { bad.K = 15 }},
		{fault(api.ErrQubit, 19), func() { bad.Q = 0 }},
		{fault(api.ErrQubit, 19), func() { bad.Ctl = []int{1, 0} }},
		{fault(api.ErrClone, 19), func() { bad.Ctl = []int{1} }},
		{fault(api.ErrIf, 19), func() { bad.If = nil }},
		{fault(api.ErrMany, 0), func() { c.Ops = c.Ops[:19] }},
		{fault(api.ErrMany, 0), func() { c.Ops = c.Ops[:18] }},
		{fault(api.ErrRoom, 0), func() { c.Ops = c.Ops[:1] }},
		{fault(api.ErrRoom, 0), func() { c.Ops[0].K = 0 }},
	} {
		if _, got := lower.Base(c); got != step.want {
			t.Fatalf("step %d: %v, want %v", i, got, step.want)
		}
		step.mend()
	}
	equal(t, "all mended", base(t, c).Qubits, 12)
}

// Circuits without order, some with odd things in them.
func TestFaultsOfManyCircuits(t *testing.T) {
	seen := map[int]int{}
	for i := range 6000 {
		n := noise(i)
		c := n.circuit(1+n.below(12), n.below(13), n.below(60), 1+n.below(11))
		if i%2 == 0 {
			n.spoil(&c)
		}
		want := wantedFault(c)
		seen[want.Code]++
		if want == none {
			formed(t, c)
			continue
		}
		equal(t, "as circ.Check has it", want.Code >= api.ErrMany || want == circ.Check(c), true)
		refused(t, "a circuit without order", c, want)
	}
	for code := api.ErrQubits; code <= api.ErrIf; code++ {
		equal(t, "a circuit has the fault", seen[code] > 0 || code == api.ErrLong, true)
	}
	equal(t, "there are circuits of each kind", min(seen[0], seen[api.ErrMany], seen[api.ErrRoom]) > 100, true)
}

// spoil puts an odd number somewhere.
func (n *noise) spoil(c *api.Circuit) {
	odd := []int{math.MinInt64, -13, -1, 0, 1, 2, 7, 12, 13, 16, math.MaxInt64}[n.below(11)]
	if len(c.Ops) == 0 || n.below(8) == 0 {
		*[]*int{&c.Qubits, &c.Bits}[n.below(2)] = odd
		return
	}
	op := &c.Ops[n.below(len(c.Ops))]
	switch n.below(6) {
	case 0:
		op.Kind = odd
	case 1:
		op.K = odd
	case 2:
		op.Q = odd
	case 3:
		op.Bit = odd
	case 4:
		op.Ctl = append(slices.Clone(op.Ctl), odd)
	case 5:
		op.If = append(slices.Clone(op.If), odd)
	}
}
