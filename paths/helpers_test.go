package paths_test

import (
	"fmt"
	"slices"
	"strconv"
	"strings"
	"testing"

	"qloom/api"
	"qloom/circ"
	"qloom/paths"
)

// none is the fault of a call that has none.
var none = api.Fault{}

func fault(code, at int) api.Fault { return api.Fault{Code: code, At: at} }

// equal holds two things against each other as they are told: a list without
// elements is the same, be it nil or empty.
func equal(t *testing.T, what string, got, want any) {
	t.Helper()
	if g, w := fmt.Sprintf("%+v", got), fmt.Sprintf("%+v", want); g != w {
		t.Errorf("%s: %s, want %s", short(what), short(g), short(w))
	}
}

// short is what is told of a thing that may be long.
func short(thing any) string {
	s := fmt.Sprint(thing)
	return fmt.Sprintf("%q", s[:min(len(s), 800)])
}

// circuit makes one of its lines, written without the ends of lines.
func circuit(t *testing.T, lines ...string) api.Circuit {
	t.Helper()
	c, f := circ.Parse(strings.Join(lines, "\n") + "\n")
	if f != none {
		t.Fatalf("Parse of %s: %v", short(lines), f)
	}
	return c
}

// product reads a product: 1, or variables as v0v1v2.
func product(text string) []int {
	var out []int
	if text == "1" {
		return out
	}
	for _, part := range strings.Split(text, "v")[1:] {
		v, err := strconv.Atoi(part)
		if err != nil {
			panic(err)
		}
		out = append(out, v)
	}
	return out
}

// parts are what stands between pluses.
func parts(text string) []string {
	if text == "0" {
		return nil
	}
	return strings.Split(text, " + ")
}

// phase reads terms: a number and a product each, as 8 v0v1 + 4 v2 + 3 1.
func phase(text string) []api.Term {
	var out []api.Term
	for _, part := range parts(text) {
		k, rest, _ := strings.Cut(part, " ")
		number, err := strconv.Atoi(k)
		if err != nil {
			panic(err)
		}
		out = append(out, api.Term{K: number, Vars: product(rest)})
	}
	return out
}

// form reads products, as 1 + v0 + v1v2.
func form(text string) [][]int {
	var out [][]int
	for _, part := range parts(text) {
		out = append(out, product(part))
	}
	return out
}

// sum is a path sum of as many qubits as there are outputs.
func sum(vars, half int, turns string, outs ...string) api.Sum {
	s := api.Sum{In: len(outs), Vars: vars, Half: half, Phase: phase(turns)}
	for _, out := range outs {
		s.Out = append(s.Out, form(out))
	}
	return s
}

// nothing is the path sum that does nothing.
func nothing(qubits int) api.Sum {
	s := api.Sum{In: qubits}
	for q := range qubits {
		s.Out = append(s.Out, [][]int{{q}})
	}
	return s
}

// of, amps, step and prove are what the calls answer where nothing is refused.
func of(t *testing.T, c api.Circuit) api.Sum {
	t.Helper()
	s, f := paths.Of(c)
	if f != none {
		t.Fatalf("Of of %s: %v", short(c), f)
	}
	return s
}

func amps(t *testing.T, s api.Sum, in int) []string {
	t.Helper()
	list, f := paths.Amps(s, in)
	if f != none {
		t.Fatalf("Amps of %s from %d: %v", short(s), in, f)
	}
	return list
}

func step(t *testing.T, s api.Sum, rule, y, z int) api.Sum {
	t.Helper()
	out, f := paths.Step(s, api.Step{Rule: rule, Y: y, Z: z})
	if f != none {
		t.Fatalf("Step %d %d %d of %s: %v", rule, y, z, short(s), f)
	}
	return out
}

func prove(t *testing.T, c, d api.Circuit) ([]api.Step, bool) {
	t.Helper()
	steps, ok, f := paths.Prove(c, d)
	if f != none {
		t.Fatalf("Prove of %s and %s: %v", short(c), short(d), f)
	}
	return steps, ok
}

// refusedOf, refusedAmps, refusedStep and refusedProof hold calls to a fault, beside
// which nothing is answered.
func refusedOf(t *testing.T, what string, c api.Circuit, want api.Fault) {
	t.Helper()
	s, f := paths.Of(c)
	if f != want || !isZero(s) {
		t.Errorf("%s: Of of %s: %s, %v, want %v", what, short(c), short(s), f, want)
	}
}

func refusedAmps(t *testing.T, what string, s api.Sum, in int, want api.Fault) {
	t.Helper()
	list, f := paths.Amps(s, in)
	if f != want || len(list) > 0 {
		t.Errorf("%s: Amps of %s from %d: %s, %v, want %v", what, short(s), in, short(list), f, want)
	}
}

func refusedStep(t *testing.T, what string, s api.Sum, p api.Step, want api.Fault) {
	t.Helper()
	out, f := paths.Step(s, p)
	if f != want || !isZero(out) {
		t.Errorf("%s: Step %v of %s: %s, %v, want %v", what, p, short(s), short(out), f, want)
	}
}

func refusedProof(t *testing.T, what string, c, d api.Circuit, want api.Fault) {
	t.Helper()
	steps, ok, f := paths.Prove(c, d)
	if f != want || ok || len(steps) > 0 {
		t.Errorf("%s: Prove: %s, %t, %v, want %v", what, short(steps), ok, f, want)
	}
}

func isZero(s api.Sum) bool {
	return s.In == 0 && s.Vars == 0 && s.Half == 0 && len(s.Phase) == 0 && len(s.Out) == 0
}

// then is a circuit with the operations of another behind its own.
func then(t *testing.T, a, b api.Circuit) api.Circuit {
	t.Helper()
	c, f := circ.Then(a, b)
	if f != none {
		t.Fatalf("Then: %v", f)
	}
	return c
}

// inverse is what undoes a circuit.
func inverse(t *testing.T, c api.Circuit) api.Circuit {
	t.Helper()
	back, f := circ.Inverse(c)
	if f != none {
		t.Fatalf("Inverse of %s: %v", short(c), f)
	}
	return back
}

// copyCircuit has lists of its own.
func copyCircuit(c api.Circuit) api.Circuit {
	c.Ops = slices.Clone(c.Ops)
	for i, op := range c.Ops {
		c.Ops[i].Ctl, c.Ops[i].If = slices.Clone(op.Ctl), slices.Clone(op.If)
	}
	return c
}

// copySum has lists of its own.
func copySum(s api.Sum) api.Sum {
	s.Phase, s.Out = slices.Clone(s.Phase), slices.Clone(s.Out)
	for i, term := range s.Phase {
		s.Phase[i].Vars = slices.Clone(term.Vars)
	}
	for i, list := range s.Out {
		s.Out[i] = slices.Clone(list)
		for j, variables := range list {
			s.Out[i][j] = slices.Clone(variables)
		}
	}
	return s
}

// noise is a row of numbers that looks without order, and is the same each time.
type noise uint64

func (n *noise) below(bound int) int {
	*n = *n*6364136223846793005 + 1442695040888963407
	return int(uint64(*n)>>33) % bound
}

// order is 0 to length - 1, without order.
func (n *noise) order(length int) []int {
	out := make([]int, length)
	for i := range out {
		j := n.below(i + 1)
		out[i], out[j] = out[j], i
	}
	return out
}

// gate is one that a path sum tells: an H, if it may be.
func (n *noise) gate(qubits int, fork bool) api.Op {
	order := n.order(qubits)
	switch n.below(8) {
	case 0:
		return api.Op{Kind: api.Phase, K: n.below(16)}
	case 1, 2, 3:
		return api.Op{Kind: api.X, Q: order[0], Ctl: order[1 : 1+n.below(min(qubits, 3))]}
	case 4, 5:
		if fork {
			return api.Op{Kind: api.H, Q: order[0]}
		}
	}
	return api.Op{Kind: api.P, K: n.below(16), Q: order[0]}
}

// circuit is one of so many gates, with at most so many Hs.
func (n *noise) circuit(qubits, ops, forks int) api.Circuit {
	c := api.Circuit{Qubits: qubits}
	for range ops {
		op := n.gate(qubits, forks > 0)
		if op.Kind == api.H {
			forks--
		}
		c.Ops = append(c.Ops, op)
	}
	return c
}

// plain is a circuit of gates of which Prove must know whether they do the same: of
// at most one control each, all turns by 4s.
func (n *noise) plain(qubits, ops, forks int) api.Circuit {
	c := n.circuit(qubits, ops, forks)
	for i, op := range c.Ops {
		c.Ops[i].Ctl = op.Ctl[:min(1, len(op.Ctl))]
		if op.Kind == api.P {
			c.Ops[i].K = op.K &^ 3
		}
	}
	return c
}

// forks is how many Hs a circuit has.
func forks(c api.Circuit) int {
	count := 0
	for _, op := range c.Ops {
		if op.Kind == api.H {
			count++
		}
	}
	return count
}
