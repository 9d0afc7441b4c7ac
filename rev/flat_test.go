package rev_test

import (
	"testing"

	"qloom/api"
	"qloom/circ"
	"qloom/rev"
	"qloom/state"
)

func TestFlatOfSmallExpressions(t *testing.T) {
	a, b, c := bit(0), bit(1), bit(2)
	for _, s := range []struct {
		e    api.Expr
		n    int
		want string
	}{
		{or(a, b), 2, "qubits 3 bits 0|x 2 on 0|x 2 on 1|x 2 on 0 1"},
		{or(b, a), 3, "qubits 4 bits 0|x 3 on 0|x 3 on 1|x 3 on 0 1"},
		{not(a), 1, "qubits 2 bits 0|x 1|x 1 on 0"},
		{one(), 0, "qubits 1 bits 0|x 0"},
		{zero(), 0, "qubits 1 bits 0"},
		{zero(), 8, "qubits 9 bits 0"},
		{and(and(c, b), a), 3, "qubits 4 bits 0|x 3 on 0 1 2"},
		{xor(xor(and(b, c), and(bit(3), a)), not(c)), 4, "qubits 5 bits 0|x 4|x 4 on 2|x 4 on 0 3|x 4 on 1 2"},
	} {
		equal(t, short(s), printed(t, flat(t, s.e, s.n)), s.want)
	}
}

// holdAdding holds a circuit to adding the expression to qubit n: from all
// basis states in which the qubits behind n are 0.
func holdAdding(t *testing.T, s sample, c api.Circuit) {
	t.Helper()
	equal(t, short(s), circ.Pure(c), none)
	for in := range 1 << (s.n + 1) {
		want := in ^ modelValue(s.e, in)<<s.n
		got, f := modelPlay(c, in)
		if got != want || f != none {
			t.Errorf("%s: %s from %d: %d, want %d", short(s), short(c), in, got, want)
		}
		equal(t, "Play", play(t, c, in), want)
	}
}

// An X for each product, in Normal's order, with the product's variables as its controls.
func TestFlatIsNormalProductByProduct(t *testing.T) {
	for _, s := range append(pool(), bigPool()...) {
		c := flat(t, s.e, s.n)
		want := api.Circuit{Qubits: s.n + 1}
		for _, product := range normal(t, s.e, s.n) {
			want.Ops = append(want.Ops, api.Op{Kind: api.X, Q: s.n, Ctl: product})
		}
		equal(t, short(s), c, want)
		holdAdding(t, s, c)
	}
}

func TestFlatOfAllProducts(t *testing.T) {
	e := not(chain(api.BOr, variables(api.MaxWires)...))
	c := flat(t, e, api.MaxWires)
	equal(t, "operations", len(c.Ops), 1<<api.MaxWires)
	holdAdding(t, sample{e, api.MaxWires}, c)
}

func TestDeepOfSmallExpressions(t *testing.T) {
	equal(t, "a or b", deep(t, or(bit(0), bit(1)), 2).Qubits, 4)
	equal(t, "1 of no variables", deep(t, one(), 0).Qubits, 1)
	equal(t, "a sum", deep(t, xor(bit(0), not(bit(7))), 8).Qubits, 9)
	for _, e := range []api.Expr{and(one(), one()), and(one(), zero()), or(zero(), zero()), or(one(), one())} {
		holdDeep(t, sample{e, 0})
	}
}

// holdDeep holds Deep's circuit to all that the document says of it.
func holdDeep(t *testing.T, s sample) {
	t.Helper()
	c := deep(t, s.e, s.n)
	equal(t, short(s), []int{c.Qubits, c.Bits}, []int{s.n + 1 + modelProducts(s.e), 0})
	for _, op := range c.Ops {
		if op.Kind != api.X || len(op.Ctl) > 2 || len(op.If) > 0 {
			t.Errorf("%s: the operation %+v", short(s), op)
		}
	}
	holdAdding(t, s, c)
}

func TestDeepAddsAndLeavesSpareQubitsNought(t *testing.T) {
	for _, s := range pool() {
		holdDeep(t, s)
	}
}

// As many BAnds and BOrs as there is room for, and one more.
func TestDeepRoom(t *testing.T) {
	for n := range api.MaxWires + 1 {
		leaf := one()
		if n > 0 {
			leaf = bit(n - 1)
		}
		for _, kind := range []int{api.BAnd, api.BOr} {
			e := leaf
			for i := range api.MaxQubits - 1 - n {
				e = node(kind, xor(e, not(leaf)), leaf)
				if i%2 == 0 {
					e = not(e)
				}
			}
			equal(t, "room", deep(t, e, n).Qubits, api.MaxQubits)
			holdDeep(t, sample{e, n})
			for _, more := range []api.Expr{and(e, leaf), or(leaf, e), xor(e, or(leaf, leaf)), and(and(e, e), e)} {
				c, f := rev.Deep(more, n)
				equal(t, "no room", []any{c, f}, []any{api.Circuit{}, fault(api.ErrRoom, 0)})
			}
		}
	}
	c, f := rev.Deep(chain(api.BAnd, make200()...), 8)
	equal(t, "by far no room", []any{c, f}, []any{api.Circuit{}, fault(api.ErrRoom, 0)})
}

// Products of long sums, as many of them as there is room for: the longest circuits.
func TestDeepOfLongSumsIsACircuit(t *testing.T) {
	seed := noise(4)
	for i := range 200 {
		n := i % (api.MaxWires + 1)
		holdDeep(t, sample{seed.expr(n, api.MaxQubits-n-1, 190), n})
	}
	for n := range api.MaxWires + 1 {
		all := chain(api.BXor, append(variables(n), one())...)
		e := all
		for range api.MaxQubits - 1 - n {
			e = and(xor(e, all), not(all))
			e = xor(not(e), bit0(n))
		}
		holdDeep(t, sample{e, n})
	}
}

// bit0 is variable 0, or 1, if there is none.
func bit0(n int) api.Expr {
	if n == 0 {
		return one()
	}
	return bit(0)
}

// What the circuits do to basis states they do to amplitudes.
func TestCircuitsOfExpressionsRun(t *testing.T) {
	e, n := or(and(bit(0), not(bit(1))), xor(bit(2), one())), 3
	for _, c := range []api.Circuit{flat(t, e, n), deep(t, e, n)} {
		for x := range 1 << n {
			shot, f := state.Run(c, x, nil)
			equal(t, "Run", f, none)
			for y, amplitude := range shot.Amps {
				want := "0"
				if y == x|modelValue(e, x)<<n {
					want = "1"
				}
				equal(t, "an amplitude", amplitude, want)
			}
		}
	}
}
