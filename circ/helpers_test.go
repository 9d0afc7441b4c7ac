package circ_test

import (
	"fmt"
	"math"
	"slices"
	"strings"
	"testing"

	"qloom/api"
	"qloom/circ"
)

// none is the fault of a call that has none.
var none = api.Fault{}

func fault(code, at int) api.Fault { return api.Fault{Code: code, At: at} }

func equal[T comparable](t *testing.T, what string, got, want T) {
	t.Helper()
	if got != want {
		t.Errorf("%s: %s, want %s", short(what), short(got), short(want))
	}
}

// short is what is told of a thing that may be long.
func short(thing any) string {
	s := fmt.Sprint(thing)
	return fmt.Sprintf("%q", s[:min(len(s), 200)])
}

// alike: are two circuits the same, be a list without elements nil or empty?
func alike(a, b api.Circuit) bool {
	return a.Qubits == b.Qubits && a.Bits == b.Bits && slices.EqualFunc(a.Ops, b.Ops, alikeOps)
}

func alikeOps(a, b api.Op) bool {
	return a.Kind == b.Kind && a.K == b.K && a.Q == b.Q && a.Bit == b.Bit && slices.Equal(a.Ctl, b.Ctl) && slices.Equal(a.If, b.If)
}

func same(t *testing.T, what string, got, want api.Circuit) {
	t.Helper()
	if !alike(got, want) {
		t.Errorf("%s: %s, want %s", short(what), short(got), short(want))
	}
}

// refused: is the fault the wanted one, and the circuit with it empty?
func refused(t *testing.T, what string, got api.Circuit, gotFault, want api.Fault) {
	t.Helper()
	equal(t, what, gotFault, want)
	same(t, what, got, api.Circuit{})
}

// circuit makes one of Print's lines, written without the ends of lines.
func circuit(t *testing.T, lines ...string) api.Circuit {
	t.Helper()
	c, f := circ.Parse(text(lines...))
	if f != none {
		t.Fatalf("Parse of %s: %v", short(lines), f)
	}
	return c
}

func text(lines ...string) string {
	return strings.Join(lines, "\n") + "\n"
}

// printed is what Print writes of a circuit that has no fault.
func printed(t *testing.T, c api.Circuit) string {
	t.Helper()
	s, f := circ.Print(c)
	if f != none {
		t.Fatalf("Print of %s: %v", short(c), f)
	}
	return s
}

// copyOf has lists of its own.
func copyOf(c api.Circuit) api.Circuit {
	c.Ops = slices.Clone(c.Ops)
	for i, op := range c.Ops {
		c.Ops[i].Ctl, c.Ops[i].If = slices.Clone(op.Ctl), slices.Clone(op.If)
	}
	return c
}

// one is a circuit of one operation, with that many qubits and bits.
func one(qubits, bits int, op api.Op) api.Circuit {
	return api.Circuit{Qubits: qubits, Bits: bits, Ops: []api.Op{op}}
}

// rows is a circuit of n like operations.
func rows(n int, op api.Op) api.Circuit {
	return api.Circuit{Qubits: 2, Bits: 1, Ops: slices.Repeat([]api.Op{op}, n)}
}

// noise is a row of numbers that looks without order, and is the same each time.
type noise uint64

func (n *noise) below(bound int) int {
	*n = *n*6364136223846793005 + 1442695040888963407
	return int(uint64(*n)>>33) % bound
}

// order is 0 to n - 1, without order.
func (n *noise) order(length int) []int {
	out := make([]int, length)
	for i := range out {
		j := n.below(i + 1)
		out[i], out[j] = out[j], i
	}
	return out
}

// gate is an operation of a kind that has no fault among that many qubits.
func (n *noise) gate(kind, qubits int) api.Op {
	op := api.Op{Kind: kind}
	if kind == api.Phase || kind == api.P {
		op.K = n.below(16)
	}
	if kind == api.Phase {
		return op
	}
	order := n.order(qubits)
	op.Q = order[0]
	if kind <= api.P && n.below(2) == 0 {
		op.Ctl = order[1 : 1+n.below(qubits)]
	}
	return op
}

// pure is a circuit of gates.
func (n *noise) pure(length int) api.Circuit {
	c := api.Circuit{Qubits: 1 + n.below(api.MaxQubits), Bits: n.below(api.MaxBits + 1)}
	for range length {
		c.Ops = append(c.Ops, n.gate(api.Phase+n.below(4), c.Qubits))
	}
	return c
}

// circuit is one of all kinds of operations, some of them with conditions.
func (n *noise) circuit(length int) api.Circuit {
	c := n.pure(0)
	for range length {
		kind := api.Phase + n.below(6)
		if kind == api.Measure && c.Bits == 0 {
			kind = api.Reset
		}
		op := n.gate(kind, c.Qubits)
		if kind == api.Measure {
			op.Bit = n.below(c.Bits)
		}
		if c.Bits > 0 && n.below(3) == 0 {
			op.If = n.conditions(n.below(2*api.MaxBits+1), c.Bits)
		}
		c.Ops = append(c.Ops, op)
	}
	return c
}

func (n *noise) conditions(length, bits int) []int {
	var out []int
	for range length {
		term := 1 + n.below(bits)
		if n.below(2) == 0 {
			term = -term
		}
		out = append(out, term)
	}
	return out
}

// odd is a number that is at an edge of something, or far off.
func (n *noise) odd() int {
	edges := []int{0, 0, 0, 1, 1, 2, 3, 4, 11, 12, 13, 15, 16, -1, -2, -12, -13, math.MinInt64, math.MinInt64 + 1, math.MaxInt64}
	return edges[n.below(len(edges))]
}

// spoil puts an odd number into some place of the circuit.
func (n *noise) spoil(c *api.Circuit) {
	switch n.below(20) {
	case 0:
		c.Qubits = n.odd()
	case 1:
		c.Bits = n.odd()
	}
	if len(c.Ops) == 0 {
		return
	}
	op := &c.Ops[n.below(len(c.Ops))]
	switch n.below(8) {
	case 0:
		op.Kind = n.odd()
	case 1:
		op.K = n.odd()
	case 2:
		op.Q = n.odd()
	case 3:
		op.Bit = n.odd()
	case 4, 5:
		op.Ctl = append(slices.Clone(op.Ctl), n.odd())
	case 6:
		op.If = append(slices.Clone(op.If), n.odd())
	case 7:
		op.If = append(slices.Clone(op.If), slices.Repeat([]int{1}, n.below(26))...)
	}
}

// pool is circuits without a fault: small and great ones, of all kinds.
func pool() []api.Circuit {
	out := []api.Circuit{
		{Qubits: 1}, {Qubits: api.MaxQubits, Bits: api.MaxBits}, {Qubits: 1, Ops: []api.Op{}},
		one(1, 0, api.Op{Kind: api.Phase}), one(1, 0, api.Op{Kind: api.X, Ctl: []int{}, If: []int{}}),
		one(2, 2, api.Op{Kind: api.Phase, K: 15, If: []int{1, -1, 2, 1}}), rows(api.MaxOps, api.Op{Kind: api.H, Q: 1, Ctl: []int{0}, If: []int{-1}}),
	}
	seed := noise(1)
	for i := range 40 {
		out = append(out, seed.circuit(i), seed.pure(i))
	}
	return out
}

// badPool is circuits of which most have one fault or several.
func badPool() []api.Circuit {
	out := []api.Circuit{{}, {Qubits: -1, Bits: -1, Ops: []api.Op{{}}}, one(1, 0, api.Op{}), rows(api.MaxOps+1, api.Op{})}
	seed := noise(2)
	for i := range 4000 {
		c := seed.circuit(1 + i%5)
		for range 1 + seed.below(4) {
			seed.spoil(&c)
		}
		out = append(out, c)
	}
	return out
}
