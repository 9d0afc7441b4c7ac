package lower_test

import (
	"fmt"
	"slices"
	"strings"
	"testing"

	"qloom/api"
	"qloom/circ"
	"qloom/lower"
)

// none is the fault of a call that has none.
var none = api.Fault{}

func fault(code, at int) api.Fault { return api.Fault{Code: code, At: at} }

// equal holds two things against each other as they are told: a list without
// elements is the same, be it nil or empty.
func equal(t *testing.T, what string, got, want any) {
	t.Helper()
	if g, w := fmt.Sprintf("%+v", got), fmt.Sprintf("%+v", want); g != w {
		t.Errorf("%s: %s, want %s", short(what), short(g), short(w))
	}
}

// short is what is told of a thing that may be long.
func short(thing any) string {
	s := fmt.Sprint(thing)
	return fmt.Sprintf("%q", s[:min(len(s), 600)])
}

// circuit makes one of its lines, written without the ends of lines.
func circuit(t *testing.T, lines ...string) api.Circuit {
	t.Helper()
	c, f := circ.Parse(strings.Join(lines, "\n") + "\n")
	if f != none {
		t.Fatalf("Parse of %s: %v", short(lines), f)
	}
	return c
}

// base is Base's circuit where nothing is refused.
func base(t *testing.T, c api.Circuit) api.Circuit {
	t.Helper()
	out, f := lower.Base(c)
	if f != none {
		t.Fatalf("Base of %s: %v", short(c), f)
	}
	return out
}

// refused holds Base to a fault, beside which nothing is answered.
func refused(t *testing.T, what string, c api.Circuit, want api.Fault) {
	t.Helper()
	out, f := lower.Base(c)
	if f != want || out.Qubits != 0 || out.Bits != 0 || len(out.Ops) > 0 {
		t.Errorf("%s: Base of %s: %s, %v, want %v", what, short(c), short(out), f, want)
	}
}

// one is a circuit of one operation.
func one(qubits, bits int, op api.Op) api.Circuit {
	return api.Circuit{Qubits: qubits, Bits: bits, Ops: []api.Op{op}}
}

// span are the numbers from 0 to n - 1.
func span(n int) []int {
	out := make([]int, n)
	for i := range out {
		out[i] = i
	}
	return out
}

// gates are an X, an H, and a P of each K, on the qubit behind so many controls.
func gates(controls int) []api.Op {
	out := []api.Op{{Kind: api.X, Q: controls, Ctl: span(controls)}, {Kind: api.H, Q: controls, Ctl: span(controls)}}
	for k := range 16 {
		out = append(out, api.Op{Kind: api.P, K: k, Q: controls, Ctl: span(controls)})
	}
	return out
}

// copyOf has lists of its own.
func copyOf(c api.Circuit) api.Circuit {
	c.Ops = slices.Clone(c.Ops)
	for i, op := range c.Ops {
		c.Ops[i].Ctl, c.Ops[i].If = slices.Clone(op.Ctl), slices.Clone(op.If)
	}
	return c
}

// noise is a row of numbers that looks without order, and is the same each time.
type noise uint64

func (n *noise) below(bound int) int {
	*n = *n*6364136223846793005 + 1442695040888963407
	return int(uint64(*n)>>33) % bound
}

// order is 0 to length - 1, without order.
func (n *noise) order(length int) []int {
	out := make([]int, length)
	for i := range out {
		j := n.below(i + 1)
		out[i], out[j] = out[j], i
	}
	return out
}

// gate is one on some of the qubits, with at most so many controls.
func (n *noise) gate(qubits, most int) api.Op {
	op := api.Op{Kind: 1 + n.below(4)}
	if op.Kind == api.Phase || op.Kind == api.P {
		op.K = n.below(16)
	}
	if op.Kind == api.Phase {
		return op
	}
	order := n.order(qubits)
	op.Q = order[0]
	op.Ctl = order[1 : 1+n.below(min(qubits, most+1))]
	return op
}

// conditions are none, mostly; else some.
func (n *noise) conditions(bits int) []int {
	var out []int
	for bits > 0 && n.below(5) < 2 {
		out = append(out, (1+n.below(bits))*(1-2*n.below(2)))
	}
	return out
}

// circuit is one of so many operations. There may be no room to lower it.
func (n *noise) circuit(qubits, bits, ops, most int) api.Circuit {
	c := api.Circuit{Qubits: qubits, Bits: bits}
	for range ops {
		op := n.gate(qubits, most)
		switch n.below(8) {
		case 0:
			op = api.Op{Kind: api.Reset, Q: n.below(qubits)}
		case 1:
			if bits > 0 {
				op = api.Op{Kind: api.Measure, Q: n.below(qubits), Bit: n.below(bits)}
			}
		}
		op.If = n.conditions(bits)
		c.Ops = append(c.Ops, op)
	}
	return c
}
