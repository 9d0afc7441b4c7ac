package circ_test

import (
	"math"
	"slices"
	"testing"

	"qloom/api"
	"qloom/circ"
)

func TestInverse(t *testing.T) {
	c := circuit(t, "qubits 3 bits 2", "phase 0", "phase 1", "x 0", "h 1 on 2 0", "p 3 1 on 0", "p 0 2", "p 15 0", "p 8 1", "x 2 on 0 1", "phase 15")
	got, f := circ.Inverse(c)
	equal(t, "Inverse", f, none)
	equal(t, "Inverse", printed(t, got), text("qubits 3 bits 2", "phase 1", "x 2 on 0 1", "p 8 1", "p 1 0", "p 0 2", "p 13 1 on 0", "h 1 on 2 0", "x 0", "phase 15", "phase 0"))
	got, f = circ.Inverse(api.Circuit{Qubits: 12, Bits: 12})
	equal(t, "of nothing", f, none)
	same(t, "of nothing", got, api.Circuit{Qubits: 12, Bits: 12})
	for k := range 16 {
		got, _ := circ.Inverse(one(1, 0, api.Op{Kind: api.P, K: k}))
		equal(t, "a turn and back", (got.Ops[0].K+k)%16, 0)
		equal(t, "Check of it", circ.Check(got), none)
	}
}

func TestInverseTwice(t *testing.T) {
	seed := noise(7)
	for i := range 200 {
		c := seed.pure(i % 30)
		back, f := circ.Inverse(c)
		equal(t, "Inverse", f, none)
		equal(t, "Pure of it", circ.Pure(back), none)
		again, f := circ.Inverse(back)
		equal(t, "Inverse", f, none)
		same(t, "twice", again, c)
	}
}

// pureFault is the fault of Pure, as the document says it.
func pureFault(c api.Circuit) api.Fault {
	if f := wantedCheck(c); f != none {
		return f
	}
	return wantedPure(c)
}

func TestInverseAndPowerTellPuresFault(t *testing.T) {
	for _, c := range append(pool(), badPool()...) {
		want := pureFault(c)
		if want == none {
			continue
		}
		got, f := circ.Inverse(c)
		refused(t, "Inverse", got, f, want)
		for _, n := range []int{0, 1, -1, math.MaxInt64, math.MinInt64} {
			got, f = circ.Power(c, n)
			refused(t, "Power", got, f, want)
		}
	}
}

func TestControl(t *testing.T) {
	c := circuit(t, "qubits 4 bits 2", "phase 5", "x 1", "h 2 on 1", "p 0 3", "p 15 1 on 3 2", "phase 0", "x 3 on 2 1")
	got, f := circ.Control(c, 0)
	equal(t, "Control", f, none)
	equal(t, "Control", printed(t, got), text("qubits 4 bits 2", "p 5 0", "x 1 on 0", "h 2 on 0 1", "p 0 3 on 0", "p 15 1 on 0 3 2", "p 0 0", "x 3 on 0 2 1"))
	got, f = circ.Control(circuit(t, "qubits 2 bits 0", "phase 5"), 1)
	equal(t, "a Phase", f, none)
	equal(t, "a Phase", printed(t, got), text("qubits 2 bits 0", "p 5 1"))
	got, f = circ.Control(circuit(t, "qubits 1 bits 3", "phase 5"), 0)
	equal(t, "a Phase by the only qubit", f, none)
	equal(t, "a Phase by the only qubit", printed(t, got), text("qubits 1 bits 3", "p 5 0"))
	got, f = circ.Control(circuit(t, "qubits 12 bits 0", "h 0 on 1 2 3 4 5 6 7 8 9 10"), 11)
	equal(t, "all qubits", f, none)
	equal(t, "all qubits", printed(t, got), text("qubits 12 bits 0", "h 0 on 11 1 2 3 4 5 6 7 8 9 10"))
	got, f = circ.Control(api.Circuit{Qubits: 1}, 0)
	equal(t, "nothing", f, none)
	same(t, "nothing", got, api.Circuit{Qubits: 1})
	got, f = circ.Control(rows(api.MaxOps, api.Op{Kind: api.H, Q: 1}), 0)
	equal(t, "many", f, none)
	equal(t, "many", len(got.Ops), api.MaxOps)
}

func TestControlRefuses(t *testing.T) {
	gates := circuit(t, "qubits 3 bits 1", "phase 1", "x 1", "h 1 on 0", "x 1 on 2 0")
	for q, want := range map[int]api.Fault{
		0: fault(api.ErrClone, 2), 1: fault(api.ErrClone, 1), 2: fault(api.ErrClone, 3), 3: fault(api.ErrQubit, 0), -1: fault(api.ErrQubit, 0),
		math.MaxInt64: fault(api.ErrQubit, 0), math.MinInt64: fault(api.ErrQubit, 0),
	} {
		got, f := circ.Control(gates, q)
		refused(t, "gates", got, f, want)
	}
	mixed := circuit(t, "qubits 2 bits 1", "x 0", "h 1", "x 1 if 0", "reset 0")
	for q, want := range map[int]api.Fault{-1: fault(api.ErrQubit, 0), 0: fault(api.ErrUnitary, 2), 1: fault(api.ErrUnitary, 2), 2: fault(api.ErrQubit, 0)} {
		got, f := circ.Control(mixed, q)
		refused(t, "no mere gates", got, f, want)
	}
	bad := one(2, 1, api.Op{Kind: api.X, If: []int{1}})
	bad.Ops = append(bad.Ops, api.Op{Kind: api.X, Q: 2})
	got, f := circ.Control(bad, 7)
	refused(t, "Check's fault first", got, f, fault(api.ErrQubit, 1))
	got, f = circ.Control(api.Circuit{}, 0)
	refused(t, "the zero circuit", got, f, fault(api.ErrQubits, 0))
}

// wantedControl says the document's words, one after the other.
func wantedControl(c api.Circuit, q int) (api.Circuit, api.Fault) {
	if f := wantedCheck(c); f != none {
		return api.Circuit{}, f
	}
	if q < 0 || q >= c.Qubits {
		return api.Circuit{}, fault(api.ErrQubit, 0)
	}
	if f := pureFault(c); f != none {
		return api.Circuit{}, f
	}
	out := copyOf(c)
	for i, op := range c.Ops {
		if op.Kind == api.Phase {
			out.Ops[i] = api.Op{Kind: api.P, K: op.K, Q: q}
			continue
		}
		if op.Q == q || slices.Contains(op.Ctl, q) {
			return api.Circuit{}, fault(api.ErrClone, i)
		}
		out.Ops[i].Ctl = slices.Concat([]int{q}, op.Ctl)
	}
	return out, none
}

func TestControlOfManyCircuits(t *testing.T) {
	seed, good := noise(11), 0
	circuits := append(pool(), badPool()...)
	for i := range 1000 {
		circuits = append(circuits, seed.pure(i%4))
	}
	for _, c := range circuits {
		for _, q := range []int{seed.below(api.MaxQubits), 0, c.Qubits - 1, c.Qubits, -1} {
			got, f := circ.Control(c, q)
			want, wantFault := wantedControl(c, q)
			equal(t, "Control", f, wantFault)
			same(t, "Control", got, want)
			if f == none {
				good++
				equal(t, "Pure of it", circ.Pure(got), none)
			}
		}
	}
	if good < 100 {
		t.Errorf("only %d circuits could be controlled", good)
	}
}

func TestPower(t *testing.T) {
	c := circuit(t, "qubits 2 bits 1", "p 3 1 on 0", "h 0", "phase 0")
	header, there, back := "qubits 2 bits 1", []string{"p 3 1 on 0", "h 0", "phase 0"}, []string{"phase 0", "h 0", "p 13 1 on 0"}
	for n := -4; n <= 4; n++ {
		lines := slices.Repeat(there, max(n, 0))
		if n < 0 {
			lines = slices.Repeat(back, -n)
		}
		got, f := circ.Power(c, n)
		equal(t, "Power", f, none)
		equal(t, "Power", printed(t, got), text(append([]string{header}, lines...)...))
	}
}

func TestPowerOfManyTimes(t *testing.T) {
	extremes := []int{math.MinInt64, math.MinInt64 + 1, -1 << 32, 1 << 32, 1 << 61, 1 << 62, -1 << 62, math.MaxInt64}
	for length, most := range map[int]int{1: 4096, 2: 2048, 3: 1365, 1000: 4, 1365: 3, 1366: 2, 2048: 2, 2049: 1, 4096: 1} {
		c := rows(length, api.Op{Kind: api.P, K: 3, Q: 1, Ctl: []int{0}})
		for _, n := range []int{most, -most, 0} {
			got, f := circ.Power(c, n)
			equal(t, "not too long", f, none)
			equal(t, "not too long", len(got.Ops), max(n, -n)*length)
		}
		for _, n := range append(extremes, most+1, -most-1) {
			got, f := circ.Power(c, n)
			refused(t, "too long", got, f, fault(api.ErrLong, 0))
		}
	}
	for _, n := range append(extremes, 0, 1, -1, 5000) {
		got, f := circ.Power(api.Circuit{Qubits: 3, Bits: 2}, n)
		equal(t, "of nothing", f, none)
		same(t, "of nothing", got, api.Circuit{Qubits: 3, Bits: 2})
	}
}

func TestThen(t *testing.T) {
	a := circuit(t, "qubits 2 bits 1", "h 0", "measure 0 to 0", "x 1 on 0 if 0")
	b := circuit(t, "qubits 2 bits 1", "reset 1 if !0", "phase 3")
	got, f := circ.Then(a, b)
	equal(t, "Then", f, none)
	equal(t, "Then", printed(t, got), text("qubits 2 bits 1", "h 0", "measure 0 to 0", "x 1 on 0 if 0", "reset 1 if !0", "phase 3"))
	nothing := api.Circuit{Qubits: 2, Bits: 1}
	for _, pair := range [][2]api.Circuit{{a, nothing}, {nothing, a}} {
		got, f = circ.Then(pair[0], pair[1])
		equal(t, "with nothing", f, none)
		same(t, "with nothing", got, a)
	}
	gate := api.Op{Kind: api.H, Ctl: []int{1}}
	for _, n := range []int{0, 1, 2048, 4095, 4096} {
		got, f = circ.Then(rows(n, gate), rows(api.MaxOps-n, gate))
		equal(t, "just not too long", f, none)
		equal(t, "just not too long", len(got.Ops), api.MaxOps)
		got, f = circ.Then(rows(n, gate), rows(min(api.MaxOps-n+1, api.MaxOps), gate))
		if n > 0 {
			refused(t, "too long", got, f, fault(api.ErrLong, 0))
		}
	}
}

func TestThenTellsTheFirstFault(t *testing.T) {
	gate := api.Op{Kind: api.H}
	badA, badB := rows(3, gate), rows(4, gate)
	badA.Ops[2].Q, badB.Ops[1].K = 2, 1
	full, other := rows(api.MaxOps, gate), rows(api.MaxOps, gate)
	other.Bits = 0
	wide := rows(1, gate)
	wide.Qubits = 3
	for i, tried := range []struct {
		a, b api.Circuit
		want api.Fault
	}{
		{badA, badB, fault(api.ErrQubit, 2)},
		{badB, badA, fault(api.ErrAngle, 1)},
		{full, badB, fault(api.ErrAngle, 1)},
		{wide, badB, fault(api.ErrAngle, 1)},
		{badA, wide, fault(api.ErrQubit, 2)},
		{full, other, fault(api.ErrShape, 0)},
		{other, full, fault(api.ErrShape, 0)},
		{wide, full, fault(api.ErrShape, 0)},
		{full, wide, fault(api.ErrShape, 0)},
		{full, full, fault(api.ErrLong, 0)},
		{api.Circuit{}, api.Circuit{}, fault(api.ErrQubits, 0)},
		{full, api.Circuit{}, fault(api.ErrQubits, 0)},
		{api.Circuit{Qubits: 1}, api.Circuit{Qubits: 1, Bits: 13}, fault(api.ErrBits, 0)},
		{api.Circuit{Qubits: 1}, rows(api.MaxOps+1, gate), fault(api.ErrLong, 0)},
	} {
		got, f := circ.Then(tried.a, tried.b)
		if f != tried.want {
			t.Errorf("case %d: %v, want %v", i, f, tried.want)
		}
		same(t, "with a fault", got, api.Circuit{})
	}
}

func TestMove(t *testing.T) {
	c := circuit(t, "qubits 3 bits 2", "phase 5", "x 0", "h 2 on 0 1", "p 3 1 on 2", "measure 1 to 1 if !0", "reset 2 if 1", "phase 2 if 0")
	got, f := circ.Move(c, []int{4, 0, 2}, 5)
	equal(t, "Move", f, none)
	equal(t, "Move", printed(t, got), text("qubits 5 bits 2", "phase 5", "x 4", "h 2 on 4 0", "p 3 0 on 2", "measure 0 to 1 if !0", "reset 2 if 1", "phase 2 if 0"))
	got, f = circ.Move(c, []int{0, 1, 2}, 3)
	equal(t, "nowhere", f, none)
	same(t, "nowhere", got, c)
	got, f = circ.Move(c, []int{11, 10, 9}, api.MaxQubits)
	equal(t, "far", f, none)
	equal(t, "far", printed(t, got), text("qubits 12 bits 2", "phase 5", "x 11", "h 9 on 11 10", "p 3 10 on 9", "measure 10 to 1 if !0", "reset 9 if 1", "phase 2 if 0"))
	got, f = circ.Move(api.Circuit{Qubits: 1}, []int{0}, 1)
	equal(t, "nothing", f, none)
	same(t, "nothing", got, api.Circuit{Qubits: 1})
}

func TestMoveAndBack(t *testing.T) {
	seed := noise(13)
	for i := range 300 {
		c := seed.circuit(i % 12)
		qubits := c.Qubits + seed.below(api.MaxQubits-c.Qubits+1)
		to := seed.order(qubits)
		there, f := circ.Move(c, to[:c.Qubits], qubits)
		equal(t, "there", f, none)
		equal(t, "Check of it", circ.Check(there), none)
		back := make([]int, qubits)
		for from, q := range to {
			back[q] = from
		}
		again, f := circ.Move(there, back, qubits)
		equal(t, "back", f, none)
		again.Qubits = c.Qubits
		same(t, "there and back", again, c)
	}
}

func TestMoveRefuses(t *testing.T) {
	c := circuit(t, "qubits 3 bits 0", "x 2 on 0 1")
	bad := one(3, 0, api.Op{Kind: api.X, Q: 3})
	for i, tried := range []struct {
		c      api.Circuit
		to     []int
		qubits int
		want   api.Fault
	}{
		{bad, nil, 0, fault(api.ErrQubit, 0)},
		{api.Circuit{}, nil, 1, fault(api.ErrQubits, 0)},
		{c, nil, 0, fault(api.ErrQubits, 0)},
		{c, []int{0, 1, 2}, 0, fault(api.ErrQubits, 0)},
		{c, []int{0, 1, 2}, -1, fault(api.ErrQubits, 0)},
		{c, []int{0, 1, 2}, 13, fault(api.ErrQubits, 0)},
		{c, []int{0, 1, 2}, math.MaxInt64, fault(api.ErrQubits, 0)},
		{c, []int{0, 1, 2}, math.MinInt64, fault(api.ErrQubits, 0)},
		{c, nil, 3, fault(api.ErrMap, 0)},
		{c, []int{}, 3, fault(api.ErrMap, 0)},
		{c, []int{0, 1}, 3, fault(api.ErrMap, 0)},
		{c, []int{0, 5}, 3, fault(api.ErrMap, 0)},
		{c, []int{0, 1, 2, 3}, 4, fault(api.ErrMap, 0)},
		{c, []int{0, 1, 1, 3}, 4, fault(api.ErrMap, 0)},
		{c, make([]int, 1000000), 4, fault(api.ErrMap, 0)},
		{c, []int{-1, 1, 2}, 3, fault(api.ErrMap, 0)},
		{c, []int{3, 1, 2}, 3, fault(api.ErrMap, 0)},
		{c, []int{0, 0, 3}, 3, fault(api.ErrMap, 1)},
		{c, []int{0, 3, 0}, 3, fault(api.ErrMap, 1)},
		{c, []int{0, 1, 3}, 3, fault(api.ErrMap, 2)},
		{c, []int{0, 1, 0}, 3, fault(api.ErrMap, 2)},
		{c, []int{0, 1, 1}, 12, fault(api.ErrMap, 2)},
		{c, []int{0, 1, 12}, 12, fault(api.ErrMap, 2)},
		{c, []int{0, 1, 2}, 2, fault(api.ErrMap, 2)},
		{c, []int{0, 1, 2}, 1, fault(api.ErrMap, 1)},
		{c, []int{math.MaxInt64, 1, 2}, 3, fault(api.ErrMap, 0)},
		{c, []int{1, math.MinInt64, 2}, 3, fault(api.ErrMap, 1)},
	} {
		got, f := circ.Move(tried.c, tried.to, tried.qubits)
		if f != tried.want {
			t.Errorf("case %d: %v, want %v", i, f, tried.want)
		}
		same(t, "with a fault", got, api.Circuit{})
	}
	for _, c := range badPool() {
		if want := wantedCheck(c); want != none {
			got, f := circ.Move(c, []int{0}, 99)
			refused(t, "Check's fault first", got, f, want)
		}
	}
}
