package rev_test

import (
	"fmt"
	"math"
	"slices"
	"strings"
	"testing"

	"qloom/api"
	"qloom/circ"
	"qloom/rev"
)

// none is the fault of a call that has none.
var none = api.Fault{}

func fault(code, at int) api.Fault { return api.Fault{Code: code, At: at} }

// equal holds two things against each other as they are told: a list without
// elements is the same, be it nil or empty.
func equal(t *testing.T, what string, got, want any) {
	t.Helper()
	if g, w := fmt.Sprintf("%+v", got), fmt.Sprintf("%+v", want); g != w {
		t.Errorf("%s: %s, want %s", short(what), short(g), short(w))
	}
}

// short is what is told of a thing that may be long.
func short(thing any) string {
	s := fmt.Sprint(thing)
	return fmt.Sprintf("%q", s[:min(len(s), 300)])
}

func bit(v int) api.Expr               { return api.Expr{Kind: api.BBit, V: v} }
func one() api.Expr                    { return api.Expr{Kind: api.BOne} }
func not(e api.Expr) api.Expr          { return node(api.BNot, e) }
func and(a, b api.Expr) api.Expr       { return node(api.BAnd, a, b) }
func or(a, b api.Expr) api.Expr        { return node(api.BOr, a, b) }
func xor(a, b api.Expr) api.Expr       { return node(api.BXor, a, b) }
func zero() api.Expr                   { return not(one()) }
func withV(e api.Expr, v int) api.Expr { e.V = v; return e }

func node(kind int, below ...api.Expr) api.Expr { return api.Expr{Kind: kind, Args: below} }

// nots is an expression below so many BNots.
func nots(e api.Expr, times int) api.Expr {
	for range times {
		e = not(e)
	}
	return e
}

// chain is a list of expressions, joined by a kind from the left.
func chain(kind int, list ...api.Expr) api.Expr {
	out := list[0]
	for _, e := range list[1:] {
		out = node(kind, out, e)
	}
	return out
}

// variables are those from 0 to n - 1.
func variables(n int) []api.Expr {
	var out []api.Expr
	for v := range n {
		out = append(out, bit(v))
	}
	return out
}

// circuit makes one of its lines, written without the ends of lines.
func circuit(t *testing.T, lines ...string) api.Circuit {
	t.Helper()
	c, f := circ.Parse(strings.Join(lines, "\n") + "\n")
	if f != none {
		t.Fatalf("Parse of %s: %v", short(lines), f)
	}
	return c
}

// printed is a circuit's text, its lines with a bar between them.
func printed(t *testing.T, c api.Circuit) string {
	t.Helper()
	text, f := circ.Print(c)
	if f != none {
		t.Errorf("Print of %s: %v", short(c), f)
	}
	return strings.ReplaceAll(strings.TrimSuffix(text, "\n"), "\n", "|")
}

// normal, flat, deep, table and play are what the calls answer where nothing is refused.
func normal(t *testing.T, e api.Expr, n int) [][]int {
	t.Helper()
	out, f := rev.Normal(e, n)
	if f != none {
		t.Errorf("Normal of %s, %d: %v", short(e), n, f)
	}
	return out
}

func flat(t *testing.T, e api.Expr, n int) api.Circuit {
	t.Helper()
	out, f := rev.Flat(e, n)
	if f != none {
		t.Errorf("Flat of %s, %d: %v", short(e), n, f)
	}
	return out
}

func deep(t *testing.T, e api.Expr, n int) api.Circuit {
	t.Helper()
	out, f := rev.Deep(e, n)
	if f != none {
		t.Errorf("Deep of %s, %d: %v", short(e), n, f)
	}
	return out
}

func table(t *testing.T, p ...int) api.Circuit {
	t.Helper()
	out, f := rev.Table(p)
	if f != none {
		t.Errorf("Table of %v: %v", p, f)
	}
	return out
}

func play(t *testing.T, c api.Circuit, in int) int {
	t.Helper()
	out, f := rev.Play(c, in)
	if f != none {
		t.Errorf("Play of %s from %d: %v", short(c), in, f)
	}
	return out
}

// copyExpr has lists of its own.
func copyExpr(e api.Expr) api.Expr {
	e.Args = slices.Clone(e.Args)
	for i, part := range e.Args {
		e.Args[i] = copyExpr(part)
	}
	return e
}

// copyCircuit has lists of its own.
func copyCircuit(c api.Circuit) api.Circuit {
	c.Ops = slices.Clone(c.Ops)
	for i, op := range c.Ops {
		c.Ops[i].Ctl, c.Ops[i].If = slices.Clone(op.Ctl), slices.Clone(op.If)
	}
	return c
}

// noise is a row of numbers that looks without order, and is the same each time.
type noise uint64

func (n *noise) below(bound int) int {
	*n = *n*6364136223846793005 + 1442695040888963407
	return int(uint64(*n)>>33) % bound
}

// order is 0 to length - 1, without order.
func (n *noise) order(length int) []int {
	out := make([]int, length)
	for i := range out {
		j := n.below(i + 1)
		out[i], out[j] = out[j], i
	}
	return out
}

// odd is a number that is at an edge of something, or far off.
func (n *noise) odd() int {
	edges := []int{0, 0, 1, 1, 2, 3, 4, 5, 6, 7, 8, 9, 12, 13, -1, -2, math.MinInt64, math.MaxInt64}
	return edges[n.below(len(edges))]
}

// leaf is a variable, or 1.
func (n *noise) leaf(variables int) api.Expr {
	if variables == 0 || n.below(5) == 0 {
		return one()
	}
	return bit(n.below(variables))
}

// expr is an expression with at most so many BAnds and BOrs, of at most
// so many nodes that are no leaves.
func (n *noise) expr(variables, products, inner int) api.Expr {
	if inner <= 0 {
		return n.leaf(variables)
	}
	inner--
	left := n.below(inner + 1)
	kind := []int{api.BNot, api.BXor, api.BAnd, api.BOr}[n.below(4)]
	if products == 0 {
		kind = []int{api.BNot, api.BXor}[n.below(2)]
	}
	if kind == api.BNot {
		return not(n.expr(variables, products, inner))
	}
	if kind != api.BXor {
		products--
	}
	some := n.below(products + 1)
	return node(kind, n.expr(variables, some, left), n.expr(variables, products-some, inner-left))
}

// spoil is the expression with an odd thing somewhere in it.
func (n *noise) spoil(e api.Expr) api.Expr {
	if len(e.Args) > 0 && n.below(4) > 0 {
		e.Args = slices.Clone(e.Args)
		i := n.below(len(e.Args))
		e.Args[i] = n.spoil(e.Args[i])
		return e
	}
	switch n.below(4) {
	case 0:
		e.Kind = n.odd()
	case 1:
		e.V = n.odd()
	case 2:
		e.Args = append(slices.Clone(e.Args), n.leaf(2))
	case 3:
		e.Args = slices.Clone(e.Args)[:len(e.Args)/2]
	}
	return e
}

// sample is an expression, and of how many variables it is meant to be.
type sample struct {
	e api.Expr
	n int
}

// pool is expressions without a fault, each of which Deep takes.
func pool() []sample {
	var out []sample
	for n := range api.MaxWires + 1 {
		out = append(out, sample{one(), n}, sample{zero(), n})
		for v := range n {
			out = append(out, sample{bit(v), n}, sample{not(bit(v)), n})
		}
	}
	for a := range 3 {
		for b := range 3 {
			for _, kind := range []int{api.BAnd, api.BOr, api.BXor} {
				out = append(out, sample{node(kind, bit(a), bit(b)), 3}, sample{node(kind, not(bit(a)), bit(b)), 3}, sample{node(kind, bit(a), one()), 3}, sample{node(kind, zero(), bit(b)), 3})
			}
		}
	}
	seed := noise(1)
	for i := range 300 {
		n := i % (api.MaxWires + 1)
		out = append(out, sample{seed.expr(n, api.MaxQubits-n-1, i%40), n})
	}
	return out
}

// bigPool is expressions without a fault, with as many products as it comes.
func bigPool() []sample {
	var out []sample
	seed := noise(2)
	for i := range 150 {
		n := i % (api.MaxWires + 1)
		out = append(out, sample{seed.expr(n, 100, i), n})
	}
	return out
}

// badPool is expressions of which most have a fault or several.
func badPool() []sample {
	out := []sample{{api.Expr{}, 0}, {bit(0), 0}, {bit(0), -1}, {bit(8), 9}, {nots(one(), api.MaxNodes), 0}}
	seed := noise(3)
	for i := range 600 {
		n := i % 5
		e := seed.expr(n, 8-n, 1+i%20)
		for range 1 + seed.below(3) {
			e = seed.spoil(e)
		}
		if seed.below(8) == 0 {
			n = seed.odd()
		}
		out = append(out, sample{e, n})
	}
	return out
}

// boundless are expressions whose nodes can't be counted; they can be neither
// copied nor told.
func boundless() []api.Expr { return []api.Expr{endless(), doubling(), wide()} }

// endless is an expression that stands below itself.
func endless() api.Expr {
	below := make([]api.Expr, 2)
	below[0], below[1] = node(api.BAnd, below...), bit(0)
	return below[0]
}

// doubling has a few lists, and more nodes than could ever be counted.
func doubling() api.Expr {
	e := bit(0)
	for range 200 {
		e = xor(e, e)
	}
	return e
}

// wide is endless, and each of its lists is long.
func wide() api.Expr {
	below := make([]api.Expr, 1<<18)
	for i := range below {
		below[i] = node(api.BNot, below...)
	}
	return below[0]
}

// xs is a circuit of that many Xs.
func (n *noise) xs(qubits, length int) api.Circuit {
	c := api.Circuit{Qubits: qubits, Bits: n.below(3)}
	for range length {
		order := n.order(qubits)
		c.Ops = append(c.Ops, api.Op{Kind: api.X, Q: order[0], Ctl: slices.Clone(order[1 : 1+n.below(qubits)])})
	}
	return c
}
