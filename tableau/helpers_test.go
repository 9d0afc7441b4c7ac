package tableau_test

import (
	"fmt"
	"slices"
	"strings"
	"testing"

	"qloom/api"
	"qloom/circ"
	"qloom/tableau"
)

// none is the fault of a call that has none.
var none = api.Fault{}

func fault(code, at int) api.Fault { return api.Fault{Code: code, At: at} }

// equal holds two things against each other as they are told: a list without
// elements is the same, be it nil or empty.
func equal(t *testing.T, what string, got, want any) {
	t.Helper()
	if g, w := fmt.Sprintf("%+v", got), fmt.Sprintf("%+v", want); g != w {
		t.Errorf("%s: %s, want %s", short(what), short(g), short(w))
	}
}

// short is what is told of a thing that may be long.
func short(thing any) string {
	s := fmt.Sprint(thing)
	return fmt.Sprintf("%q", s[:min(len(s), 400)])
}

// circuit makes one of its lines, written without the ends of lines.
func circuit(t *testing.T, lines ...string) api.Circuit {
	t.Helper()
	c, f := circ.Parse(strings.Join(lines, "\n") + "\n")
	if f != none {
		t.Fatalf("Parse of %s: %v", short(lines), f)
	}
	return c
}

// then is a circuit with the operations of another behind its own.
func then(t *testing.T, a, b api.Circuit) api.Circuit {
	t.Helper()
	c, f := circ.Then(a, b)
	if f != none {
		t.Fatalf("Then: %v", f)
	}
	return c
}

// inverse undoes a circuit.
func inverse(t *testing.T, c api.Circuit) api.Circuit {
	t.Helper()
	back, f := circ.Inverse(c)
	if f != none {
		t.Fatalf("Inverse of %s: %v", short(c), f)
	}
	return back
}

// ran is what Run tells.
type ran struct {
	paulis []string
	bits   []int
	used   int
	fault  api.Fault
}

func runOf(c api.Circuit, in int, tape ...int) ran {
	paulis, bits, used, f := tableau.Run(c, in, tape)
	return ran{paulis, bits, used, f}
}

// image is Image's Pauli where nothing is refused.
func image(t *testing.T, c api.Circuit, pauli string) string {
	t.Helper()
	out, f := tableau.Image(c, pauli)
	if f != none {
		t.Fatalf("Image of %s by %s: %v", pauli, short(c), f)
	}
	return out
}

// again is Again's circuit where nothing is refused.
func again(t *testing.T, c api.Circuit) api.Circuit {
	t.Helper()
	out, f := tableau.Again(c)
	if f != none {
		t.Fatalf("Again of %s: %v", short(c), f)
	}
	return out
}

// span are the numbers from 0 to n - 1.
func span(n int) []int {
	out := make([]int, n)
	for i := range out {
		out[i] = i
	}
	return out
}

// copyOf has lists of its own.
func copyOf(c api.Circuit) api.Circuit {
	c.Ops = slices.Clone(c.Ops)
	for i, op := range c.Ops {
		c.Ops[i].Ctl, c.Ops[i].If = slices.Clone(op.Ctl), slices.Clone(op.If)
	}
	return c
}

// rows visits all rows of so many operations of these.
func rows(ops []api.Op, length int, visit func([]api.Op)) {
	row := make([]api.Op, length)
	var place func(i int)
	place = func(i int) {
		if i == length {
			visit(row)
			return
		}
		for _, op := range ops {
			row[i] = op
			place(i + 1)
		}
	}
	place(0)
}

// noise is a row of numbers that looks without order, and is the same each time.
type noise uint64

func (n *noise) below(bound int) int {
	*n = *n*6364136223846793005 + 1442695040888963407
	return int(uint64(*n)>>33) % bound
}

// order is 0 to length - 1, without order.
func (n *noise) order(length int) []int {
	out := make([]int, length)
	for i := range out {
		j := n.below(i + 1)
		out[i], out[j] = out[j], i
	}
	return out
}

// gate is a stabilizer operation that neither measures nor resets.
func (n *noise) gate(qubits int) api.Op {
	order := n.order(qubits)
	one := order[1:min(2, qubits)]
	switch n.below(10) {
	case 0:
		return api.Op{Kind: api.Phase, K: n.below(16)}
	case 1:
		return api.Op{Kind: api.X, Q: order[0]}
	case 2, 3, 4:
		return api.Op{Kind: api.X, Q: order[0], Ctl: one}
	case 5, 6:
		return api.Op{Kind: api.H, Q: order[0]}
	case 7:
		return api.Op{Kind: api.P, K: 8 * n.below(2), Q: order[0], Ctl: one}
	}
	return api.Op{Kind: api.P, K: 4 * n.below(4), Q: order[0]}
}

// gates is a circuit of such gates.
func (n *noise) gates(qubits, ops int) api.Circuit {
	c := api.Circuit{Qubits: qubits}
	for range ops {
		c.Ops = append(c.Ops, n.gate(qubits))
	}
	return c
}

// conditions are none, mostly; else some.
func (n *noise) conditions(bits int) []int {
	var out []int
	for bits > 0 && n.below(5) < 2 {
		out = append(out, (1+n.below(bits))*(1-2*n.below(2)))
	}
	return out
}

// circuit is one of stabilizer operations, at most so many of them measurements and
// resets.
func (n *noise) circuit(qubits, bits, ops, meetings int) api.Circuit {
	c := api.Circuit{Qubits: qubits, Bits: bits}
	for range ops {
		op := n.gate(qubits)
		if meetings > 0 && n.below(4) == 0 {
			op = api.Op{Kind: api.Reset, Q: n.below(qubits)}
			if bits > 0 && n.below(3) > 0 {
				op = api.Op{Kind: api.Measure, Q: op.Q, Bit: n.below(bits)}
			}
			meetings--
		}
		op.If = n.conditions(bits)
		c.Ops = append(c.Ops, op)
	}
	return c
}

// pauli is a text of a Pauli.
func (n *noise) pauli(qubits int) string {
	text := []byte{"+-"[n.below(2)]}
	for range qubits {
		text = append(text, "IXYZ"[n.below(4)])
	}
	return string(text)
}
