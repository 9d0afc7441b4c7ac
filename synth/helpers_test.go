package synth_test

import (
	"fmt"
	"slices"
	"strings"
	"testing"

	"qloom/api"
	"qloom/circ"
	"qloom/ring"
	"qloom/state"
	"qloom/synth"
)

// none is the fault of a call that has none.
var none = api.Fault{}

func fault(code, at int) api.Fault { return api.Fault{Code: code, At: at} }

// equal holds two things against each other as they are told: a list without
// elements is the same, be it nil or empty.
func equal(t *testing.T, what string, got, want any) {
	t.Helper()
	if g, w := fmt.Sprintf("%+v", got), fmt.Sprintf("%+v", want); g != w {
		t.Errorf("%s: %s, want %s", short(what), short(g), short(w))
	}
}

// short is what is told of a thing that may be long.
func short(thing any) string {
	s := fmt.Sprint(thing)
	return fmt.Sprintf("%q", s[:min(len(s), 400)])
}

// one is a circuit of one qubit, of its lines with commas between.
func one(t *testing.T, lines string) api.Circuit { return circuit(t, 1, lines) }

// circuit is one of so many qubits, of its lines with commas between.
func circuit(t *testing.T, qubits int, lines string) api.Circuit {
	t.Helper()
	text := fmt.Sprintf("qubits %d bits 0\n", qubits)
	if lines != "" {
		text += strings.ReplaceAll(lines, ", ", "\n") + "\n"
	}
	c, f := circ.Parse(text)
	if f != none {
		t.Fatalf("Parse of %s: %v", short(text), f)
	}
	return c
}

// inverse undoes a circuit.
func inverse(t *testing.T, c api.Circuit) api.Circuit {
	t.Helper()
	back, f := circ.Inverse(c)
	if f != none {
		t.Fatalf("Inverse of %s: %v", short(c), f)
	}
	return back
}

// normal is Normal's form where nothing is refused.
func normal(t *testing.T, c api.Circuit) []string {
	t.Helper()
	form, f := synth.Normal(c)
	if f != none {
		t.Fatalf("Normal of %s: %v", short(c), f)
	}
	return form
}

// full is Full's circuit where nothing is refused.
func full(t *testing.T, m [][]string) api.Circuit {
	t.Helper()
	c, f := synth.Full(m)
	if f != none {
		t.Fatalf("Full of %s: %v", short(m), f)
	}
	return c
}

// matrix has the amplitudes that a circuit leaves of every basis state.
func matrix(t *testing.T, c api.Circuit) [][]string {
	t.Helper()
	m, f := state.Matrix(c)
	if f != none {
		t.Fatalf("Matrix of %s: %v", short(c), f)
	}
	return m
}

// number is a number of a text that is one.
func number(t *testing.T, text string) ring.Num {
	t.Helper()
	n, f := ring.Parse(text)
	if f != none {
		t.Fatalf("no number: %s", short(text))
	}
	return n
}

// depthOf is the depth of the deepest entry.
func depthOf(t *testing.T, m [][]string) int {
	t.Helper()
	most := 0
	for _, row := range m {
		for _, entry := range row {
			most = max(most, number(t, entry).Depth())
		}
	}
	return most
}

// copyOf has lists of its own.
func copyOf(c api.Circuit) api.Circuit {
	c.Ops = slices.Clone(c.Ops)
	for i, op := range c.Ops {
		c.Ops[i].Ctl, c.Ops[i].If = slices.Clone(op.Ctl), slices.Clone(op.If)
	}
	return c
}

// copyRows has lists of its own.
func copyRows(m [][]string) [][]string {
	m = slices.Clone(m)
	for i, row := range m {
		m[i] = slices.Clone(row)
	}
	return m
}

// rows visits all rows of so many operations of these.
func rows(ops []api.Op, length int, visit func([]api.Op)) {
	row := make([]api.Op, length)
	var place func(i int)
	place = func(i int) {
		if i == length {
			visit(row)
			return
		}
		for _, op := range ops {
			row[i] = op
			place(i + 1)
		}
	}
	place(0)
}

// noise is a row of numbers that looks without order, and is the same each time.
type noise uint64

func (n *noise) below(bound int) int {
	*n = *n*6364136223846793005 + 1442695040888963407
	return int(uint64(*n)>>33) % bound
}

// gate is one whose K is even.
func (n *noise) gate(qubits int) api.Op {
	q := n.below(qubits)
	var on []int
	if n.below(2) == 0 {
		for other := range qubits {
			if other != q {
				on = append(on, other)
			}
		}
	}
	switch n.below(8) {
	case 0:
		return api.Op{Kind: api.Phase, K: 2 * n.below(8)}
	case 1:
		return api.Op{Kind: api.X, Q: q, Ctl: on}
	case 2, 3, 4:
		return api.Op{Kind: api.H, Q: q, Ctl: on}
	}
	return api.Op{Kind: api.P, K: 2 * n.below(8), Q: q, Ctl: on}
}

// gates is a circuit of such gates.
func (n *noise) gates(qubits, ops int) api.Circuit {
	c := api.Circuit{Qubits: qubits}
	for range ops {
		c.Ops = append(c.Ops, n.gate(qubits))
	}
	return c
}

// syllables are those of a word, without order.
func (n *noise) syllables(length int) []string {
	var out []string
	for range length {
		out = append(out, []string{"HT", "SHT"}[n.below(2)])
	}
	if length > 0 && n.below(2) == 0 {
		out[0] = "T"
	}
	return out
}
