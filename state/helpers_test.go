package state_test

import (
	"fmt"
	"math"
	"slices"
	"strings"
	"testing"

	"qloom/api"
	"qloom/circ"
	"qloom/ring"
	"qloom/state"
)

// none is the fault of a call that has none.
var none = api.Fault{}

func fault(code, at int) api.Fault { return api.Fault{Code: code, At: at} }

// equal holds two things against each other as they are told: a list without
// elements is the same, be it nil or empty.
func equal(t *testing.T, what string, got, want any) {
	t.Helper()
	if g, w := fmt.Sprintf("%+v", got), fmt.Sprintf("%+v", want); g != w {
		t.Errorf("%s: %s, want %s", short(what), short(g), short(w))
	}
}

// short is what is told of a thing that may be long.
func short(thing any) string {
	s := fmt.Sprint(thing)
	return fmt.Sprintf("%q", s[:min(len(s), 300)])
}

// circuit makes one of its lines, written without the ends of lines.
func circuit(t *testing.T, lines ...string) api.Circuit {
	t.Helper()
	c, f := circ.Parse(strings.Join(lines, "\n") + "\n")
	if f != none {
		t.Fatalf("Parse of %s: %v", short(lines), f)
	}
	return c
}

// repeated is a circuit with the first line of those, and the others n times.
func repeated(t *testing.T, n int, lines ...string) api.Circuit {
	t.Helper()
	return circuit(t, append(lines[:1:1], slices.Repeat(lines[1:], n)...)...)
}

// then is a circuit with the operations of another behind its own.
func then(t *testing.T, a, b api.Circuit) api.Circuit {
	t.Helper()
	c, f := circ.Then(a, b)
	if f != none {
		t.Fatalf("Then: %v", f)
	}
	return c
}

// shot is what Run leaves where nothing is refused.
func shot(t *testing.T, c api.Circuit, in int, tape ...int) api.Shot {
	t.Helper()
	s, f := state.Run(c, in, tape)
	if f != none {
		t.Errorf("Run of %s from %d with %v: %v", short(c), in, tape, f)
	}
	return s
}

// chances are Chances' branches where nothing is refused.
func chances(t *testing.T, c api.Circuit, in int) []api.Branch {
	t.Helper()
	out, f := state.Chances(c, in)
	if f != none {
		t.Errorf("Chances of %s from %d: %v", short(c), in, f)
	}
	return out
}

// reduced is Reduced's matrix where nothing is refused.
func reduced(t *testing.T, c api.Circuit, in int, keep ...int) [][]string {
	t.Helper()
	out, f := state.Reduced(c, in, keep)
	if f != none {
		t.Errorf("Reduced of %s from %d to %v: %v", short(c), in, keep, f)
	}
	return out
}

// basis is the texts of the wave that is 1 in one of so many states.
func basis(states, x int) []string {
	out := slices.Repeat([]string{"0"}, states)
	out[x] = "1"
	return out
}

func number(t *testing.T, text string) ring.Num {
	t.Helper()
	n, f := ring.Parse(text)
	if f != none {
		t.Fatalf("ring.Parse of %s: %v", short(text), f)
	}
	return n
}

// copyOf has lists of its own.
func copyOf(c api.Circuit) api.Circuit {
	c.Ops = slices.Clone(c.Ops)
	for i, op := range c.Ops {
		c.Ops[i].Ctl, c.Ops[i].If = slices.Clone(op.Ctl), slices.Clone(op.If)
	}
	return c
}

// noise is a row of numbers that looks without order, and is the same each time.
type noise uint64

func (n *noise) below(bound int) int {
	*n = *n*6364136223846793005 + 1442695040888963407
	return int(uint64(*n)>>33) % bound
}

// order is 0 to length - 1, without order.
func (n *noise) order(length int) []int {
	out := make([]int, length)
	for i := range out {
		j := n.below(i + 1)
		out[i], out[j] = out[j], i
	}
	return out
}

// tape is that many outcomes.
func (n *noise) tape(length int) []int {
	out := make([]int, length)
	for i := range out {
		out[i] = n.below(2)
	}
	return out
}

// gate is one on some of those qubits.
func (n *noise) gate(qubits []int) api.Op {
	op := api.Op{Kind: []int{api.Phase, api.X, api.H, api.H, api.P}[n.below(5)]}
	if op.Kind == api.Phase || op.Kind == api.P {
		op.K = n.below(16)
	}
	if op.Kind == api.Phase {
		return op
	}
	order := n.order(len(qubits))
	op.Q = qubits[order[0]]
	if n.below(2) == 0 {
		for _, i := range order[1 : 1+n.below(len(order))] {
			op.Ctl = append(op.Ctl, qubits[i])
		}
	}
	return op
}

// meeting is a Measure or a Reset of one of those qubits.
func (n *noise) meeting(qubits []int, bits int) api.Op {
	q := qubits[n.below(len(qubits))]
	if bits == 0 || n.below(3) == 0 {
		return api.Op{Kind: api.Reset, Q: q}
	}
	return api.Op{Kind: api.Measure, Q: q, Bit: n.below(bits)}
}

// conditions are none, mostly; else some.
func (n *noise) conditions(bits int) []int {
	var out []int
	for bits > 0 && n.below(5) < 2 {
		term := 1 + n.below(bits)
		if n.below(2) == 0 {
			term = -term
		}
		out = append(out, term)
	}
	return out
}

// all are the qubits 0 to n - 1.
func all(n int) []int {
	var out []int
	for q := range n {
		out = append(out, q)
	}
	return out
}

// pure is a circuit of that many gates.
func (n *noise) pure(qubits, gates int) api.Circuit {
	c := api.Circuit{Qubits: qubits}
	for range gates {
		c.Ops = append(c.Ops, n.gate(all(qubits)))
	}
	return c
}

// ops are operations of all kinds on those qubits, at most so many of them
// measurements and resets.
func (n *noise) ops(qubits []int, bits, length, meetings int) []api.Op {
	var out []api.Op
	for range length {
		op := n.gate(qubits)
		if meetings > 0 && n.below(3) == 0 {
			op = n.meeting(qubits, bits)
			meetings--
		}
		op.If = n.conditions(bits)
		out = append(out, op)
	}
	return out
}

// circuit is one of all kinds of operations.
func (n *noise) circuit(qubits, length, meetings int) api.Circuit {
	bits := n.below(4)
	return api.Circuit{Qubits: qubits, Bits: bits, Ops: n.ops(all(qubits), bits, length, meetings)}
}

// odd is a number that is at an edge of something, or far off.
func (n *noise) odd() int {
	edges := []int{0, 0, 0, 1, 1, 2, 3, 4, 11, 12, 13, 15, 16, -1, -2, -12, -13, math.MinInt64, math.MinInt64 + 1, math.MaxInt64}
	return edges[n.below(len(edges))]
}

// spoil puts an odd number into some place of the circuit.
func (n *noise) spoil(c *api.Circuit) {
	switch n.below(20) {
	case 0:
		c.Qubits = n.odd()
	case 1:
		c.Bits = n.odd()
	}
	if len(c.Ops) == 0 {
		return
	}
	op := &c.Ops[n.below(len(c.Ops))]
	switch n.below(6) {
	case 0:
		op.Kind = n.odd()
	case 1:
		op.K = n.odd()
	case 2:
		op.Q = n.odd()
	case 3:
		op.Bit = n.odd()
	case 4:
		op.Ctl = append(slices.Clone(op.Ctl), n.odd())
	case 5:
		op.If = append(slices.Clone(op.If), n.odd())
	}
}

// pool is circuits without a fault, of few qubits and of few tapes.
func pool() []api.Circuit {
	out := []api.Circuit{{Qubits: 1}, {Qubits: 3, Bits: 2, Ops: []api.Op{}}}
	seed := noise(1)
	for i := range 150 {
		out = append(out, seed.circuit(1+i%4, i%23, 6))
	}
	return out
}

// badPool is circuits of which most have a fault or several.
func badPool() []api.Circuit {
	out := []api.Circuit{{}, {Qubits: -1, Bits: -1, Ops: []api.Op{{}}}, {Qubits: api.MaxQubits + 1}, {Qubits: 1, Bits: api.MaxBits + 1}, {Qubits: 1, Ops: []api.Op{{}}}}
	out = append(out, api.Circuit{Qubits: 1, Ops: slices.Repeat([]api.Op{{Kind: api.X}}, api.MaxOps+1)})
	seed := noise(2)
	for i := range 400 {
		c := seed.circuit(1+i%4, 1+i%7, 6)
		for range 1 + seed.below(3) {
			seed.spoil(&c)
		}
		out = append(out, c)
	}
	return out
}
