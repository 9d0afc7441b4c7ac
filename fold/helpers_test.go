package fold_test

import (
	"fmt"
	"slices"
	"strings"
	"testing"

	"qloom/api"
	"qloom/circ"
	"qloom/fold"
)

// none is the fault of a call that has none.
var none = api.Fault{}

func fault(code, at int) api.Fault { return api.Fault{Code: code, At: at} }

// equal holds two things against each other as they are told: a list without
// elements is the same, be it nil or empty.
func equal(t *testing.T, what string, got, want any) {
	t.Helper()
	if g, w := fmt.Sprintf("%+v", got), fmt.Sprintf("%+v", want); g != w {
		t.Errorf("%s: %s, want %s", short(what), short(g), short(w))
	}
}

// short is what is told of a thing that may be long.
func short(thing any) string {
	s := fmt.Sprint(thing)
	return fmt.Sprintf("%q", s[:min(len(s), 400)])
}

// circuit makes one of its lines, written without the ends of lines.
func circuit(t *testing.T, lines ...string) api.Circuit {
	t.Helper()
	c, f := circ.Parse(strings.Join(lines, "\n") + "\n")
	if f != none {
		t.Fatalf("Parse of %s: %v", short(lines), f)
	}
	return c
}

// slim is Slim's circuit where nothing is refused.
func slim(t *testing.T, c api.Circuit) api.Circuit {
	t.Helper()
	out, f := fold.Slim(c)
	if f != none {
		t.Fatalf("Slim of %s: %v", short(c), f)
	}
	return out
}

// refused holds Slim to a fault, beside which nothing is answered.
func refused(t *testing.T, what string, c api.Circuit, want api.Fault) {
	t.Helper()
	out, f := fold.Slim(c)
	if f != want || out.Qubits != 0 || out.Bits != 0 || len(out.Ops) > 0 {
		t.Errorf("%s: Slim of %s: %s, %v, want %v", what, short(c), short(out), f, want)
	}
}

// then is a circuit with the operations of another behind its own.
func then(t *testing.T, a, b api.Circuit) api.Circuit {
	t.Helper()
	c, f := circ.Then(a, b)
	if f != none {
		t.Fatalf("Then: %v", f)
	}
	return c
}

// undone is a circuit with its Inverse behind it.
func undone(t *testing.T, c api.Circuit) api.Circuit {
	t.Helper()
	back, f := circ.Inverse(c)
	if f != none {
		t.Fatalf("Inverse of %s: %v", short(c), f)
	}
	return then(t, c, back)
}

// numbers is what circ.Count says.
func numbers(t *testing.T, c api.Circuit) api.Tally {
	t.Helper()
	tally, f := circ.Count(c)
	if f != none {
		t.Fatalf("Count of %s: %v", short(c), f)
	}
	return tally
}

// kinds is how many operations of a kind a circuit has.
func kinds(c api.Circuit, kind int) int {
	count := 0
	for _, op := range c.Ops {
		if op.Kind == kind {
			count++
		}
	}
	return count
}

// span are the numbers from 0 to n - 1.
func span(n int) []int {
	out := make([]int, n)
	for i := range out {
		out[i] = i
	}
	return out
}

// copyOf has lists of its own.
func copyOf(c api.Circuit) api.Circuit {
	c.Ops = slices.Clone(c.Ops)
	for i, op := range c.Ops {
		c.Ops[i].Ctl, c.Ops[i].If = slices.Clone(op.Ctl), slices.Clone(op.If)
	}
	return c
}

// noise is a row of numbers that looks without order, and is the same each time.
type noise uint64

func (n *noise) below(bound int) int {
	*n = *n*6364136223846793005 + 1442695040888963407
	return int(uint64(*n)>>33) % bound
}

// order is 0 to length - 1, without order.
func (n *noise) order(length int) []int {
	out := make([]int, length)
	for i := range out {
		j := n.below(i + 1)
		out[i], out[j] = out[j], i
	}
	return out
}

// gate is one on some of the qubits, with at most so many controls.
func (n *noise) gate(qubits, most int) api.Op {
	op := api.Op{Kind: 1 + n.below(4)}
	if op.Kind == api.Phase || op.Kind == api.P {
		op.K = n.below(16)
	}
	if op.Kind == api.Phase {
		return op
	}
	order := n.order(qubits)
	op.Q = order[0]
	op.Ctl = order[1 : 1+n.below(min(qubits, most+1))]
	return op
}

// circuit is one of so many gates, with at most so many controls each.
func (n *noise) circuit(qubits, ops, most int) api.Circuit {
	c := api.Circuit{Qubits: qubits}
	for range ops {
		c.Ops = append(c.Ops, n.gate(qubits, most))
	}
	return c
}

// plainGate is one of those whose turns are counted: of ten gates so many are Hs, and
// most others are Xs with one control and Ps.
func (n *noise) plainGate(qubits, forks int) api.Op {
	order := n.order(qubits)
	if n.below(10) < forks {
		return api.Op{Kind: api.H, Q: order[0]}
	}
	switch n.below(10) {
	case 0:
		return api.Op{Kind: api.Phase, K: n.below(16)}
	case 1, 2:
		return api.Op{Kind: api.X, Q: order[0]}
	case 3, 4, 5:
		return api.Op{Kind: api.X, Q: order[0], Ctl: order[1:min(2, qubits)]}
	}
	return api.Op{Kind: api.P, K: n.below(16), Q: order[0]}
}

// plain is a circuit of such gates.
func (n *noise) plain(qubits, ops, forks int) api.Circuit {
	c := api.Circuit{Qubits: qubits}
	for range ops {
		c.Ops = append(c.Ops, n.plainGate(qubits, forks))
	}
	return c
}
