package mach_test

import (
	"fmt"
	"slices"
	"testing"

	"qloom/api"
	"qloom/circ"
	"qloom/mach"
	"qloom/state"
)

// cx is an X with a control.
func cx(control, q int) api.Op { return api.Op{Kind: api.X, Q: q, Ctl: []int{control}} }

// needs is how much fuel a circuit's image may need: operations and conditions.
func needs(c api.Circuit) int {
	out := len(c.Ops)
	for _, op := range c.Ops {
		out += len(op.If)
	}
	return out
}

// mostBytes is how many bytes a circuit's image may have.
func mostBytes(c api.Circuit) int { return 12 + 3*len(c.Ops) + 4*(needs(c)-len(c.Ops)) }

// asking is how many operations of a circuit ask for outcomes.
func asking(c api.Circuit) int {
	out := 0
	for _, op := range c.Ops {
		if op.Kind == api.Measure || op.Kind == api.Reset {
			out++
		}
	}
	return out
}

// framed is the image of a circuit, held to what its head and its length must be.
func framed(t *testing.T, c api.Circuit) string {
	t.Helper()
	s := emitted(t, c)
	if f := mach.Check(s); f != none {
		t.Fatalf("Emit of %s: an image with the fault %v", short(c), f)
	}
	equal(t, "qubits and bits", []int{int(s[4]), int(s[5])}, []int{c.Qubits, c.Bits})
	if len(s) > mostBytes(c) {
		t.Errorf("Emit of %s: %d bytes, of at most %d", short(c), len(s), mostBytes(c))
	}
	return s
}

// runsAs holds a run of a circuit's image to the run of the circuit, or to the code of
// what it is refused for.
func runsAs(t *testing.T, c api.Circuit, s string, in int, tape []int, fuel int) {
	t.Helper()
	want, wf := state.Run(c, in, tape)
	got, f := mach.Run(s, in, tape, fuel)
	if f.Code != wf.Code || fmt.Sprintf("%+v", got.Shot) != fmt.Sprintf("%+v", want) {
		t.Errorf("%s from %d with %v and %d: %s, %v, want %s, %v", short(c), in, tape, fuel, short(got), f, short(want), wf)
	}
	if got.Steps > needs(c) {
		t.Errorf("%s from %d with %v: %d instructions", short(c), in, tape, got.Steps)
	}
}

// does holds the image of a circuit to the circuit: from every basis state and two more,
// with every tape up to the longest that may be used, and with some of other things.
func does(t *testing.T, c api.Circuit) {
	t.Helper()
	s := framed(t, c)
	least, longest := needs(c), asking(c)
	for in := range 1 << c.Qubits {
		for length := range longest + 1 {
			for _, tape := range tapes(length) {
				runsAs(t, c, s, in, tape, least)
			}
			runsAs(t, c, s, in, append(tapes(length)[in%(1<<length)], 2, 0), least)
		}
		runsAs(t, c, s, in, slices.Repeat([]int{1}, longest), least+1)
		runsAs(t, c, s, in, slices.Repeat([]int{1}, longest+3), api.MaxFuel)
		runsAs(t, c, s, in, slices.Repeat([]int{0}, longest+1), api.MaxFuel)
	}
	runsAs(t, c, s, 1<<c.Qubits, slices.Repeat([]int{0}, longest), least)
	runsAs(t, c, s, -1, nil, least)
}

func TestEmitOfEachOperation(t *testing.T) {
	does(t, api.Circuit{Qubits: 1})
	equal(t, "the length of an image without instructions", len(emitted(t, api.Circuit{Qubits: 1})), 12)
	for k := range 16 {
		does(t, api.Circuit{Qubits: 2, Ops: []api.Op{{Kind: api.H}, {Kind: api.H, Q: 1}, {Kind: api.Phase, K: k}}})
		does(t, api.Circuit{Qubits: 2, Ops: []api.Op{{Kind: api.H}, {Kind: api.H, Q: 1}, {Kind: api.P, K: k, Q: 1}}})
	}
	for q := range 3 {
		for _, op := range []api.Op{{Kind: api.X, Q: q}, {Kind: api.H, Q: q}, {Kind: api.P, K: 3, Q: q}, {Kind: api.Reset, Q: q}, cx((q+1)%3, q), cx((q+2)%3, q)} {
			does(t, api.Circuit{Qubits: 3, Bits: 1, Ops: []api.Op{op}})
			does(t, api.Circuit{Qubits: 3, Ops: []api.Op{{Kind: api.H, Q: 1}, {Kind: api.P, K: 1, Q: 1}, op, {Kind: api.H, Q: 2}, op}})
		}
		for bit := range 3 {
			does(t, api.Circuit{Qubits: 3, Bits: 3, Ops: []api.Op{{Kind: api.Measure, Q: q, Bit: bit}}})
		}
	}
	most := api.Circuit{Qubits: 12, Bits: 12, Ops: []api.Op{{Kind: api.Measure, Q: 11, Bit: 11}, cx(11, 0)}}
	for _, in := range []int{0, 1, 2048, 4095, 4096} {
		runsAs(t, most, framed(t, most), in, []int{in >> 11 & 1}, 2)
	}
}

// Operations with conditions, that hold and that don't, behind measurements of both bits.
func TestEmitOfConditions(t *testing.T) {
	conditions := [][]int{nil, {1}, {-1}, {2}, {-2}, {1, 2}, {-1, 2}, {2, -1}, {-2, -1}, {1, 1}, {-2, -2, -2}, {1, -1}, {-2, 2}, {2, 1, -1}}
	ops := []api.Op{{Kind: api.Phase, K: 5}, {Kind: api.X, Q: 1}, {Kind: api.H}, {Kind: api.P, K: 3, Q: 1}, cx(1, 0), {Kind: api.Measure, Bit: 1}, {Kind: api.Reset, Q: 1}}
	for _, first := range ops {
		for _, terms := range conditions {
			first.If = terms
			for _, second := range ops {
				second.If = []int{-1, 2}
				does(t, api.Circuit{Qubits: 2, Bits: 2, Ops: []api.Op{{Kind: api.H}, {Kind: api.Measure}, {Kind: api.Measure, Q: 1, Bit: 1}, first, second}})
			}
		}
	}
}

// All circuits of two of some operations, with conditions on bits that are 0.
func TestEmitOfAllShortCircuits(t *testing.T) {
	var pool []api.Op
	for _, op := range []api.Op{{Kind: api.Phase, K: 7}, {Kind: api.X}, {Kind: api.H}, {Kind: api.P, K: 2}, cx(0, 1), cx(1, 0), {Kind: api.Measure}, {Kind: api.Measure, Q: 1, Bit: 1}, {Kind: api.Reset}} {
		for _, terms := range [][]int{nil, {1}, {-1}, {2, -1}} {
			op.If = terms
			pool = append(pool, op)
		}
	}
	for _, first := range pool {
		for _, second := range pool {
			does(t, api.Circuit{Qubits: 2, Bits: 2, Ops: []api.Op{first, second}})
		}
	}
}

func TestEmitOfCircuits(t *testing.T) {
	for i := range 600 {
		n := noise(i)
		qubits := 1 + n.below(4)
		does(t, n.circuit(qubits, n.below(4), n.below(20), n.below(7-qubits)))
	}
	for i := range 60 {
		n := noise(i)
		c := n.circuit(5+n.below(8), 1+n.below(12), 30, 12)
		s := framed(t, c)
		for range 3 {
			runsAs(t, c, s, n.below(1<<c.Qubits), n.tape(), needs(c))
			runsAs(t, c, s, n.below(1<<c.Qubits), slices.Repeat([]int{n.below(2)}, 12), api.MaxFuel)
		}
	}
}

// A circuit of as many operations as can be: what is gone past is farther than a byte tells.
func TestEmitOfLongCircuits(t *testing.T) {
	n := noise(7)
	for _, count := range []int{254, 255, 256, 257, 300, api.MaxOps} {
		c := n.circuit(2, 3, count, 8)
		for len(c.Ops) == api.MaxOps && needs(c) > api.MaxFuel {
			c = n.circuit(2, 3, count, 8)
		}
		s := framed(t, c)
		for in := range 4 {
			for _, tape := range [][]int{{0, 1, 0, 1, 0, 1, 0, 1}, {1, 1, 1, 1, 1, 1, 1, 1}, {0, 0, 1, 0, 0, 0, 0, 0}, {1}, {1, 0, 2}} {
				runsAs(t, c, s, in, tape, needs(c))
			}
		}
	}
}

func TestEmitRefusesControls(t *testing.T) {
	plain := []api.Op{{Kind: api.X, Q: 1}, cx(0, 2), {Kind: api.H, Q: 2}, {Kind: api.Measure}, {Kind: api.X, Q: 1, Ctl: []int{2}, If: []int{-1}}}
	for at := range len(plain) + 1 {
		for _, op := range []api.Op{{Kind: api.H, Ctl: []int{1}}, {Kind: api.P, K: 3, Ctl: []int{2}}, {Kind: api.P, Ctl: []int{2}}, {Kind: api.X, Ctl: []int{1, 2}}, {Kind: api.H, Ctl: []int{2, 1}}, {Kind: api.P, K: 1, Q: 2, Ctl: []int{0, 1}, If: []int{1}}} {
			c := api.Circuit{Qubits: 3, Bits: 1, Ops: slices.Insert(slices.Clone(plain), at, op)}
			unemitted(t, "controls", c, fault(api.ErrControl, at))
			c.Ops = append(c.Ops, api.Op{Kind: api.H, Ctl: []int{1}})
			unemitted(t, "the first of two", c, fault(api.ErrControl, at))
			c.Ops = append(c.Ops, api.Op{Kind: api.H, Q: 3})
			unemitted(t, "Check's is told first", c, fault(api.ErrQubit, len(c.Ops)-1))
		}
	}
}

func TestEmitTellsChecksFault(t *testing.T) {
	for want, c := range map[api.Fault]api.Circuit{
		fault(api.ErrQubits, 0):  {},
		fault(api.ErrBits, 0):    {Qubits: 1, Bits: 13},
		fault(api.ErrLong, 0):    {Qubits: 1, Ops: make([]api.Op, api.MaxOps+1)},
		fault(api.ErrKind, 1):    {Qubits: 1, Ops: []api.Op{{Kind: api.X}, {Kind: 7}}},
		fault(api.ErrAngle, 0):   {Qubits: 1, Ops: []api.Op{{Kind: api.P, K: 16}}},
		fault(api.ErrQubit, 1):   {Qubits: 1, Ops: []api.Op{{Kind: api.X}, {Kind: api.X, Q: 1}}},
		fault(api.ErrControl, 0): {Qubits: 2, Ops: []api.Op{{Kind: api.Reset, Ctl: []int{1}}}},
		fault(api.ErrClone, 0):   {Qubits: 2, Ops: []api.Op{{Kind: api.X, Ctl: []int{0}}}},
		fault(api.ErrBit, 0):     {Qubits: 1, Ops: []api.Op{{Kind: api.Measure}}},
		fault(api.ErrIf, 0):      {Qubits: 1, Ops: []api.Op{{Kind: api.X, If: []int{1}}}},
	} {
		unemitted(t, "Check's fault", c, want)
	}
}

// emitFault is Emit's fault by the document's words, of circuits that are not long.
func emitFault(c api.Circuit) api.Fault {
	if f := circ.Check(c); f != none {
		return f
	}
	for at, op := range c.Ops {
		if len(op.Ctl) > 0 && !(op.Kind == api.X && len(op.Ctl) == 1) {
			return fault(api.ErrControl, at)
		}
	}
	return none
}

func TestEmitOfSpoiledCircuits(t *testing.T) {
	for i := range 20000 {
		n := noise(i)
		c := n.circuit(1+n.below(12), n.below(13), n.below(6), 6)
		n.spoil(&c)
		if want := emitFault(c); want != none {
			unemitted(t, "spoiled", c, want)
		} else {
			framed(t, c)
		}
	}
}

// loaded is a circuit of as many operations as can be of one kind, that have so many
// conditions in all. Those of the first 2000 operations hold, of the others none does.
func loaded(op api.Op, conditions int) api.Circuit {
	c := api.Circuit{Qubits: 2, Bits: 2, Ops: slices.Repeat([]api.Op{op}, api.MaxOps)}
	for i := range c.Ops {
		count := conditions * (i + 1) / api.MaxOps
		count -= conditions * i / api.MaxOps
		c.Ops[i].If = slices.Repeat([]int{-1}, count)
		if i >= 2000 {
			c.Ops[i].If = slices.Repeat([]int{2}, count)
		}
	}
	return c
}

// An image need not be too long where the bound of its bytes is just at the limit.
func TestEmitOfManyConditions(t *testing.T) {
	full := loaded(api.Op{Kind: api.P, K: 3, Q: 1}, 21925)
	equal(t, "the bound", mostBytes(full), api.MaxImage)
	s := framed(t, full)
	for in := range 4 {
		runsAs(t, full, s, in, nil, api.MaxFuel)
	}
	full.Ops[0] = api.Op{Kind: api.Reset, Q: 1, If: []int{-1, -1, -1, -2, -2}}
	s = framed(t, full)
	for _, tape := range [][]int{nil, {0}, {1}, {7}} {
		runsAs(t, full, s, 2, tape, api.MaxFuel)
	}
	flips := loaded(cx(0, 1), 21925)
	runsAs(t, flips, framed(t, flips), 1, nil, api.MaxFuel)
	for _, op := range []api.Op{{Kind: api.P, Q: 1}, cx(0, 1), {Kind: api.Measure}} {
		unemitted(t, "a condition too many", loaded(op, 21926), fault(api.ErrMany, 0))
	}
	unemitted(t, "as many conditions as can be", loaded(api.Op{Kind: api.H}, 24*api.MaxOps), fault(api.ErrMany, 0))
	late := loaded(api.Op{Kind: api.P, Q: 1}, 24*api.MaxOps)
	late.Ops[api.MaxOps-1] = api.Op{Kind: api.H, Ctl: []int{1}}
	unemitted(t, "controls are told first", late, fault(api.ErrControl, api.MaxOps-1))
	late.Ops[api.MaxOps-1] = api.Op{Kind: api.H, Q: 2}
	unemitted(t, "Check's is told first", late, fault(api.ErrQubit, api.MaxOps-1))
}

// Above that bound a shorter image is still one.
func TestEmitOfShortInstructions(t *testing.T) {
	for _, op := range []api.Op{{Kind: api.H, Q: 1}, {Kind: api.X}, {Kind: api.Phase, K: 1}, {Kind: api.Reset}} {
		c := loaded(op, 22949)
		s, f := mach.Emit(c)
		equal(t, "as long as can be", fmt.Sprint(len(s), f), fmt.Sprint(api.MaxImage, none))
		runsAs(t, c, s, 0, slices.Repeat([]int{0}, 2000), api.MaxFuel)
		unemitted(t, "a condition too many", loaded(op, 22950), fault(api.ErrMany, 0))
	}
}
