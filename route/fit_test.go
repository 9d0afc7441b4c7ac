package route_test

import (
	"fmt"
	"slices"
	"testing"

	"qloom/api"
	"qloom/circ"
	"qloom/rev"
)

func TestExamplesOfTheDocument(t *testing.T) {
	c := circuit(t, "qubits 3 bits 0", "x 2 on 0")
	if out := formed(t, c, row(3)); len(out.Circuit.Ops) > 4 {
		t.Errorf("%d operations", len(out.Circuit.Ops))
	}
	does(t, c, row(3))
	begins, end := scheduled(t, circuit(t, "qubits 3 bits 0", "h 0", "x 1 on 0", "h 2", "x 1 on 2"), api.Times{One: 1, Two: 5})
	equal(t, "begin", begins, []int{0, 1, 0, 6})
	equal(t, "end", end, 11)
}

// Every X with a control, of circuits of every number of qubits, on all devices of up
// to four qubits: the X alone, and between Hs.
func TestEveryControlOnEveryDevice(t *testing.T) {
	for n := 1; n <= 4; n++ {
		for _, d := range whole(n) {
			for qubits := 1; qubits <= n; qubits++ {
				for control := range qubits {
					for q := range qubits {
						if q == control {
							continue
						}
						does(t, api.Circuit{Qubits: qubits, Ops: []api.Op{cx(control, q)}}, d)
						does(t, api.Circuit{Qubits: qubits, Ops: []api.Op{{Kind: api.H, Q: control}, cx(control, q), {Kind: api.H, Q: q}, cx(q, control)}}, d)
					}
				}
			}
		}
	}
}

// plays holds a circuit of Xs to what it does to basis states, of more qubits than
// amplitudes are told of in a short time.
func plays(t *testing.T, c api.Circuit, d api.Device, ins []int) {
	t.Helper()
	out := formed(t, c, d)
	for _, in := range ins {
		want, f := rev.Play(c, in)
		got, g := rev.Play(out.Circuit, standing(in, out.Start))
		if f != none || g != none || got != standing(want, out.End) {
			t.Errorf("Fit of %s on %s from %d: %d, %v", short(c), short(d), in, got, g)
		}
	}
}

// All devices of five qubits, with every X with a control one behind the other.
func TestAllControlsInARow(t *testing.T) {
	for i, d := range whole(5) {
		n := noise(i)
		for qubits := 2; qubits <= 5; qubits++ {
			c := api.Circuit{Qubits: qubits}
			for _, pair := range n.order(qubits * qubits) {
				if control, q := pair/qubits, pair%qubits; control != q {
					c.Ops = append(c.Ops, cx(control, q), api.Op{Kind: api.X, Q: n.below(qubits)})
				}
			}
			plays(t, c, d, span(1<<qubits))
		}
	}
}

// Each pair of qubits of greater devices, once and with others between.
func TestControlsOnGreatDevices(t *testing.T) {
	for n := 5; n <= 12; n++ {
		mix := noise(n)
		for _, d := range known(n) {
			for control := range n {
				for q := range n {
					if q == control {
						continue
					}
					c := api.Circuit{Qubits: n, Ops: []api.Op{cx(control, q)}}
					ins := []int{0, 1 << control, 1<<control | 1<<q, 1<<n - 1, mix.below(1 << n), mix.below(1 << n)}
					plays(t, c, d, ins)
					other := mix.order(n)
					c.Ops = append(c.Ops, cx(other[0], other[1]), cx(q, control), api.Op{Kind: api.X, Q: q}, cx(other[2], other[0]))
					plays(t, c, d, ins)
				}
			}
		}
	}
}

// Circuits of fewer qubits than the device, and of as many, with all kinds of
// operations, from every basis state and with every tape.
func TestManyCircuits(t *testing.T) {
	for i := range 3000 {
		n := noise(i)
		places := 1 + n.below(5)
		c := n.circuit(1+n.below(places), n.below(4), n.below(12))
		does(t, c, n.device(places))
	}
}

func TestManyGreaterCircuits(t *testing.T) {
	for i := range 200 {
		n := noise(i)
		places := 6 + n.below(4)
		c := n.circuit(1+n.below(places), n.below(4), 8)
		doesFrom(t, c, n.device(places), []int{0, 1<<c.Qubits - 1, n.below(1 << c.Qubits)})
	}
	c := circuit(t, "qubits 12 bits 1", "h 0", "x 11 on 0", "measure 11 to 0", "x 5 on 11", "p 3 5 if 0", "h 5", "reset 0")
	doesFrom(t, c, row(12), []int{0, 1<<12 - 1})
	c = circuit(t, "qubits 3 bits 1", "h 0", "x 2 on 0", "measure 2 to 0", "x 1 on 2", "p 3 1 if 0", "x 0 on 1 if !0", "reset 0")
	doesFrom(t, c, noise(5).mixedRow(12), []int{0, 3, 7})
}

// mixedRow is a row of so many qubits, with other numbers.
func (n noise) mixedRow(qubits int) api.Device { return n.renamed(row(qubits)) }

// Circuits that a device can do as they are, on one and two qubits and on all that are
// linked with each other: no operation more may be than the circuit has on the former.
func TestSmallDevices(t *testing.T) {
	for i := range 100 {
		n := noise(i)
		does(t, n.circuit(1, n.below(3), n.below(8)), api.Device{N: 1})
		does(t, n.circuit(1+n.below(2), n.below(3), n.below(8)), row(2))
		does(t, n.circuit(2, n.below(3), n.below(8)), api.Device{N: 2, Links: [][2]int{{1, 0}}})
		does(t, n.circuit(4, n.below(3), n.below(8)), full(4))
	}
	for _, d := range []api.Device{{N: 1}, row(2), row(3), full(12)} {
		c := api.Circuit{Qubits: 1, Bits: 12, Ops: slices.Repeat([]api.Op{{Kind: api.Reset, If: []int{12}}}, api.MaxOps)}
		equal(t, "as many as can be", len(formed(t, c, d).Circuit.Ops) <= api.MaxOps, true)
	}
}

// Without operations there are none on the device, either.
func TestNoOperations(t *testing.T) {
	for n := 1; n <= 6; n++ {
		for qubits := 1; qubits <= n; qubits++ {
			does(t, api.Circuit{Qubits: qubits, Bits: n}, row(n))
			equal(t, "none", len(formed(t, api.Circuit{Qubits: qubits}, row(n)).Circuit.Ops), 0)
		}
	}
}

// Conditions that hold or don't, on operations of all kinds, far from their controls:
// where qubits stand does not hang on bits.
func TestConditions(t *testing.T) {
	words := []string{"x 2", "h 0", "phase 5", "p 3 1", "x 2 on 0", "x 0 on 2", "x 1 on 0", "measure 1 to 1", "reset 2"}
	for _, word := range words {
		for _, terms := range []string{"0", "!0", "0 !1", "!1 !0", "0 !0", "1 1 0", "1"} {
			does(t, circuit(t, "qubits 3 bits 2", "h 0", "h 2", "measure 0 to 0", "h 0", word+" if "+terms, "x 1 on 2"), row(3))
			does(t, circuit(t, "qubits 3 bits 2", "measure 0 to 0", "x 2 on 0 if 0", word+" if "+terms, "measure 1 to 1", word+" if "+terms, "p 1 1"), star(4, 3))
		}
	}
	long := slices.Repeat([]int{1, -2}, api.MaxBits)
	op := cx(3, 0)
	op.If = long
	does(t, api.Circuit{Qubits: 4, Bits: 2, Ops: []api.Op{{Kind: api.Measure}, op, cx(0, 2), op}}, row(5))
}

// Measurements and resets are of the qubits that were meant, wherever they stand then,
// and ask for outcomes in their order.
func TestMeasurementsAndResets(t *testing.T) {
	does(t, circuit(t, "qubits 3 bits 3", "h 0", "x 2 on 0", "measure 0 to 0", "measure 1 to 1", "measure 2 to 2", "x 0 on 2", "reset 2", "x 1 if !0"), row(3))
	does(t, circuit(t, "qubits 4 bits 1", "h 3", "x 0 on 3", "reset 3", "x 3 on 1", "measure 0 to 0", "x 1 on 0 if 0", "reset 1"), row(4))
	does(t, circuit(t, "qubits 1 bits 1", "measure 0 to 0", "reset 0", "x 0 if 0"), row(3))
	does(t, circuit(t, "qubits 2 bits 12", "h 0", "measure 0 to 11", "x 1 on 0 if 11", "measure 1 to 0"), star(5, 4))
}

// What needs no control stays as it is, but for the qubits' numbers.
func TestOperationsStay(t *testing.T) {
	c := circuit(t, "qubits 4 bits 2", "phase 3", "phase 0 if 1", "x 2", "h 1 if 0 0 !0", "p 0 1", "p 15 2 if !1", "measure 0 to 1", "measure 3 to 0 if 1", "reset 1", "reset 0 if !1")
	for _, d := range known(6) {
		out := formed(t, c, d)
		equal(t, "End", out.End, out.Start)
		want, f := circ.Move(c, out.Start, 6)
		equal(t, "Move", f, none)
		equal(t, "as they are", out.Circuit, want)
	}
}

// faulty are circuits with operations that Fit and Schedule refuse alike.
func faulty(at, length int) []api.Circuit {
	var out []api.Circuit
	for _, op := range []api.Op{
		{Kind: api.H, Q: 1, Ctl: []int{0}}, {Kind: api.P, K: 3, Q: 1, Ctl: []int{0}}, {Kind: api.P, Q: 1, Ctl: []int{2}},
		{Kind: api.X, Q: 2, Ctl: []int{0, 1}}, {Kind: api.X, Q: 3, Ctl: []int{2, 0, 1}}, {Kind: api.H, Q: 3, Ctl: []int{0, 2}}, {Kind: api.P, K: 1, Q: 0, Ctl: []int{3, 2, 1}},
		{Kind: api.X, Q: 2, Ctl: []int{0, 1}, If: []int{1, -1}},
	} {
		ops := slices.Repeat([]api.Op{cx(0, 3), {Kind: api.H}, {Kind: api.Measure, Q: 2}, {Kind: api.P, K: 5}}, length)[:length]
		out = append(out, api.Circuit{Qubits: 4, Bits: 1, Ops: slices.Insert(ops, at, op)})
	}
	return out
}

// Controls where none may be: at the first such operation, wherever it stands.
func TestControlsThatCannotBe(t *testing.T) {
	for at := range 7 {
		for _, c := range faulty(at, 6) {
			refused(t, "controls", c, row(4), fault(api.ErrControl, at))
			refused(t, "controls", c, full(12), fault(api.ErrControl, at))
			unscheduled(t, "controls", c, api.Times{}, fault(api.ErrControl, at))
			c.Ops = append(c.Ops, api.Op{Kind: api.H, Q: 1, Ctl: []int{2}})
			refused(t, "the first", c, row(5), fault(api.ErrControl, at))
			unscheduled(t, "the first", c, api.Times{}, fault(api.ErrControl, at))
		}
	}
	for _, kind := range []int{api.Phase, api.Measure, api.Reset} {
		c := api.Circuit{Qubits: 2, Bits: 1, Ops: []api.Op{{Kind: api.H}, {Kind: kind, Ctl: []int{1}}}}
		refused(t, "as of circ.Check", c, row(2), fault(api.ErrControl, 1))
		unscheduled(t, "as of circ.Check", c, api.Times{}, fault(api.ErrControl, 1))
	}
}

func TestNoRoom(t *testing.T) {
	for n := 1; n <= 12; n++ {
		for qubits := 1; qubits <= 12; qubits++ {
			c := api.Circuit{Qubits: qubits, Ops: []api.Op{{Kind: api.H, Q: qubits - 1}}}
			if qubits > n {
				refused(t, "no room", c, row(n), fault(api.ErrRoom, 0))
			} else {
				formed(t, c, row(n))
			}
		}
	}
}

// The most operations that may be, and one more, on devices of every number of qubits,
// with many numbers of Xs with controls.
func TestTooMany(t *testing.T) {
	for n := 2; n <= 12; n++ {
		each := 1
		if n > 2 {
			each = 1 + 3*(n-2)
		}
		for _, controlled := range []int{0, 1, 2, 17, api.MaxOps/each - 1, api.MaxOps / each} {
			c := api.Circuit{Qubits: 2 + n%2*(n-2), Bits: 1}
			for i := range controlled {
				control := i % c.Qubits
				q := (control + 1 + i/c.Qubits%(c.Qubits-1)) % c.Qubits
				c.Ops = append(c.Ops, cx(control, q))
			}
			for plain := range api.MaxOps - controlled*each {
				c.Ops = slices.Insert(c.Ops, plain*7%(len(c.Ops)+1), api.Op{Kind: 1 + plain%3})
			}
			if controlled == api.MaxOps/each || controlled%2 == 0 {
				c.Ops[0].If = []int{1}
			}
			for _, d := range []api.Device{row(n), star(n, 1), full(n)} {
				equal(t, "reckoned", room(c, n), api.MaxOps)
				formed(t, c, d)
				more := api.Circuit{Qubits: c.Qubits, Bits: 1, Ops: append(slices.Clone(c.Ops), api.Op{Kind: api.Reset})}
				if controlled*(each-1) > 0 {
					refused(t, "one more", more, d, fault(api.ErrMany, 0))
				} else {
					refused(t, "one more", more, d, fault(api.ErrLong, 0))
				}
			}
		}
	}
}

// Numbers of the reckoning, as they come to: each X with a control counts, those with
// conditions too; other operations, and Xs without controls, don't.
func TestWhatIsReckoned(t *testing.T) {
	ends := func(n, count int) api.Circuit {
		c := api.Circuit{Qubits: n, Bits: 1}
		for i := range count {
			op := cx(i%2*(n-1), (i+1)%2*(n-1))
			op.If = [][]int{nil, {1}, {-1, 1}}[i%3]
			c.Ops = append(c.Ops, op)
		}
		return c
	}
	for n, most := range map[int]int{2: 4096, 3: 1024, 4: 585, 5: 409, 6: 315, 11: 146, 12: 132} {
		formed(t, ends(n, most), row(n))
		code := api.ErrMany
		if n == 2 {
			code = api.ErrLong
		}
		refused(t, fmt.Sprint(n), ends(n, most+1), row(n), fault(code, 0))
	}
	plain := slices.Repeat([]api.Op{{Kind: api.X}, {Kind: api.H}, {Kind: api.P}, {Kind: api.Phase}, {Kind: api.Measure}, {Kind: api.Reset}}, 700)[:api.MaxOps]
	formed(t, api.Circuit{Qubits: 12, Bits: 1, Ops: plain}, row(12))
	plain[77] = cx(0, 1)
	refused(t, "one control", api.Circuit{Qubits: 12, Bits: 1, Ops: plain}, row(12), fault(api.ErrMany, 0))
	refused(t, "linked or not", api.Circuit{Qubits: 2, Bits: 1, Ops: plain}, row(3), fault(api.ErrMany, 0))
	formed(t, api.Circuit{Qubits: 2, Bits: 1, Ops: plain}, row(2))
}

// Of a circuit and a device that have all faults at once, they are mended one by one:
// each time the next one in the document's order is told.
func TestTheFirstFaultOfFit(t *testing.T) {
	c := api.Circuit{Qubits: 13, Bits: 13, Ops: slices.Repeat([]api.Op{cx(0, 11)}, api.MaxOps+1)}
	bad := &c.Ops[20]
	*bad = api.Op{Kind: api.H, K: 1, Q: 12, Ctl: []int{12, 0}, If: []int{0}}
	d := api.Device{N: 0, Links: [][2]int{{0, 11}, {0, 0}, {0, 1}}}
	for i, step := range []struct {
		want api.Fault
		mend func()
	}{
		{fault(api.ErrQubits, 0), func() { c.Qubits = 12 }},
		{fault(api.ErrBits, 0), func() { c.Bits = 12 }},
		{fault(api.ErrLong, 0), func() { c.Ops = c.Ops[1:] }},
		{fault(api.ErrAngle, 19), func() { bad.K = 0 }},
		{fault(api.ErrQubit, 19), func() { bad.Q = 0 }},
		{fault(api.ErrQubit, 19), func() { bad.Ctl = []int{1, 0} }},
		{fault(api.ErrClone, 19), func() { bad.Ctl = []int{1, 2} }},
		{fault(api.ErrIf, 19), func() { bad.If = nil }},
		{fault(api.ErrQubits, 0), func() { d.N = 11 }},
		{fault(api.ErrQubit, 0), func() { d.Links[0] = [2]int{1, 0} }},
		{fault(api.ErrClone, 1), func() { d.Links[1] = [2]int{2, 1} }},
		{fault(api.ErrTwice, 2), func() { d.Links[2] = [2]int{2, 3} }},
		{fault(api.ErrApart, 0), func() { d = row(11) }},
		{fault(api.ErrRoom, 0), func() { d = row(12) }},
		{fault(api.ErrControl, 19), func() { bad.Kind = api.X }},
		{fault(api.ErrControl, 19), func() { bad.Kind, bad.Ctl = api.H, []int{1} }},
		{fault(api.ErrControl, 19), func() { bad.Ctl = nil }},
		{fault(api.ErrMany, 0), func() { c.Ops = c.Ops[:134] }},
		{fault(api.ErrMany, 0), func() { c.Ops = c.Ops[:133] }},
	} {
		refused(t, fmt.Sprint("step ", i), c, d, step.want)
		step.mend()
	}
	formed(t, c, d)
}

// Each fault of a circuit's operations, at its place among good ones.
func TestFaultsOfOperations(t *testing.T) {
	good := []api.Op{cx(2, 0), {Kind: api.Measure, Bit: 1}, {Kind: api.P, K: 1, Q: 1}}
	for _, tried := range []struct {
		code int
		op   api.Op
	}{
		{api.ErrKind, api.Op{}},
		{api.ErrKind, api.Op{Kind: 7, Ctl: []int{0}}},
		{api.ErrAngle, api.Op{Kind: api.P, K: 16}},
		{api.ErrAngle, api.Op{Kind: api.X, K: 8, Q: 1, Ctl: []int{0}}},
		{api.ErrQubit, api.Op{Kind: api.H, Q: 3}},
		{api.ErrQubit, api.Op{Kind: api.Phase, Q: 1}},
		{api.ErrControl, api.Op{Kind: api.Reset, Ctl: []int{1}}},
		{api.ErrQubit, api.Op{Kind: api.X, Ctl: []int{3}}},
		{api.ErrClone, api.Op{Kind: api.X, Ctl: []int{0}}},
		{api.ErrClone, api.Op{Kind: api.P, Q: 2, Ctl: slices.Repeat([]int{0}, 1000)}},
		{api.ErrBit, api.Op{Kind: api.Measure, Bit: 2}},
		{api.ErrBit, api.Op{Kind: api.X, Q: 1, Ctl: []int{0}, Bit: 1}},
		{api.ErrIf, api.Op{Kind: api.X, Q: 1, Ctl: []int{0}, If: []int{0}}},
		{api.ErrIf, api.Op{Kind: api.Phase, If: slices.Repeat([]int{1}, 2*api.MaxBits+1)}},
	} {
		for at := range len(good) + 1 {
			c := api.Circuit{Qubits: 3, Bits: 2, Ops: slices.Insert(slices.Clone(good), at, tried.op)}
			refused(t, "an operation", c, row(3), fault(tried.code, at))
			refused(t, "an operation", c, api.Device{}, fault(tried.code, at))
			unscheduled(t, "an operation", c, api.Times{One: -1}, fault(tried.code, at))
		}
	}
}

// Circuits and devices without order, some with odd things in them.
func TestFaultsOfManyCircuits(t *testing.T) {
	seen := map[int]int{}
	for i := range 4000 {
		n := noise(i)
		c := n.circuit(1+n.below(12), n.below(13), n.below(500))
		d := n.device(max(1, 12-n.below(12)))
		if i%2 == 0 {
			n.spoil(&c)
		}
		if i%5 == 0 {
			n.spoilDevice(&d)
		}
		want := fitFault(c, d)
		seen[want.Code]++
		if want == none {
			formed(t, c, d)
		} else {
			refused(t, "without order", c, d, want)
		}
	}
	for _, code := range []int{0, api.ErrQubits, api.ErrBits, api.ErrKind, api.ErrAngle, api.ErrQubit, api.ErrClone, api.ErrBit, api.ErrIf, api.ErrTwice, api.ErrApart, api.ErrRoom, api.ErrControl, api.ErrMany} {
		equal(t, fmt.Sprint("circuits with the fault ", code), seen[code] > 10, true)
	}
}
