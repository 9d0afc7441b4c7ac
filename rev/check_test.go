package rev_test

import (
	"math"
	"testing"

	"qloom/api"
	"qloom/rev"
)

func TestCheckOfGoodExpressions(t *testing.T) {
	for _, s := range append(pool(), bigPool()...) {
		equal(t, short(s), rev.Check(s.e, s.n), none)
	}
	for n := range api.MaxWires + 1 {
		for v := range n {
			equal(t, "a variable", rev.Check(bit(v), n), none)
		}
	}
}

func TestCheckOfTheNumberOfNodes(t *testing.T) {
	full := nots(one(), api.MaxNodes-1)
	equal(t, "MaxNodes nodes in a row", rev.Check(full, 0), none)
	equal(t, "one more", rev.Check(not(full), 0), fault(api.ErrLong, 0))
	bushy := chain(api.BXor, make200()...)
	equal(t, "399 nodes", rev.Check(bushy, 1), none)
	equal(t, "400 nodes", rev.Check(not(bushy), 1), none)
	equal(t, "401 nodes", rev.Check(not(not(bushy)), 1), fault(api.ErrLong, 0))
	equal(t, "401 nodes", rev.Check(or(one(), bushy), 1), fault(api.ErrLong, 0))
}

// make200 are 200 leaves.
func make200() []api.Expr {
	out := make([]api.Expr, 200)
	for i := range out {
		out[i] = bit(0)
	}
	return out
}

// All nodes count, also those that may not be there.
func TestCheckCountsWhatMayNotBeThere(t *testing.T) {
	equal(t, "399 below a variable", rev.Check(node(api.BBit, make([]api.Expr, api.MaxNodes-1)...), 1), fault(api.ErrArgs, 0))
	equal(t, "400 below a variable", rev.Check(node(api.BBit, make([]api.Expr, api.MaxNodes)...), 1), fault(api.ErrLong, 0))
	equal(t, "400 below no kind", rev.Check(node(77, make([]api.Expr, api.MaxNodes)...), 1), fault(api.ErrLong, 0))
	equal(t, "many far below", rev.Check(not(node(0, nots(api.Expr{}, 200), nots(api.Expr{}, 200))), 1), fault(api.ErrLong, 0))
}

func TestCheckOfTheNumberOfVariables(t *testing.T) {
	for _, n := range []int{math.MinInt64, -8, -1, api.MaxWires + 1, 12, 63, 64, math.MaxInt64} {
		equal(t, "n", rev.Check(one(), n), fault(api.ErrQubits, 0))
	}
	for n := range api.MaxWires + 1 {
		equal(t, "n", rev.Check(one(), n), none)
	}
}

// nodeCase is a node among 3 variables, and the code of its fault.
type nodeCase struct {
	code int
	e    api.Expr
}

func nodeCases() []nodeCase {
	out := []nodeCase{
		{api.ErrVar, bit(3)}, {api.ErrVar, bit(-1)}, {api.ErrVar, bit(math.MinInt64)}, {api.ErrVar, bit(math.MaxInt64)}, {api.ErrVar, bit(1 << 32)}, {api.ErrVar, bit(api.MaxWires - 1)},
		{api.ErrArgs, node(api.BBit, one())}, {api.ErrArgs, node(api.BOne, one())}, {api.ErrArgs, node(api.BOne, one(), one())},
		{api.ErrArgs, node(api.BNot)}, {api.ErrArgs, node(api.BNot, one(), one())},
		{api.ErrArgs, withV(node(api.BBit, one()), 3)}, {api.ErrArgs, withV(node(api.BNot), 1)}, {api.ErrArgs, withV(node(api.BAnd, one()), -1)},
	}
	for _, kind := range []int{0, -1, 7, 8, math.MinInt64, math.MaxInt64, 1<<32 + 1} {
		out = append(out, nodeCase{api.ErrKind, node(kind)}, nodeCase{api.ErrKind, node(kind, one())}, nodeCase{api.ErrKind, node(kind, one(), one())}, nodeCase{api.ErrKind, withV(node(kind), 5)})
	}
	for _, kind := range []int{api.BAnd, api.BOr, api.BXor} {
		out = append(out, nodeCase{api.ErrArgs, node(kind)}, nodeCase{api.ErrArgs, node(kind, one())}, nodeCase{api.ErrArgs, node(kind, one(), one(), one())})
	}
	for _, v := range []int{1, 2, 3, -1, math.MinInt64, math.MaxInt64} {
		out = append(out, nodeCase{api.ErrVar, withV(one(), v)}, nodeCase{api.ErrVar, withV(not(one()), v)})
		for _, kind := range []int{api.BAnd, api.BOr, api.BXor} {
			out = append(out, nodeCase{api.ErrVar, withV(node(kind, one(), one()), v)})
		}
	}
	return out
}

// Each fault is told at each place at which it can stand.
func TestCheckOfNodes(t *testing.T) {
	for _, c := range nodeCases() {
		equal(t, short(c.e), rev.Check(c.e, 3), fault(c.code, 0))
		equal(t, short(c.e), rev.Check(not(c.e), 3), fault(c.code, 1))
		for _, kind := range []int{api.BAnd, api.BOr, api.BXor} {
			equal(t, short(c.e), rev.Check(node(kind, c.e, bit(0)), 3), fault(c.code, 1))
			equal(t, short(c.e), rev.Check(node(kind, bit(0), c.e), 3), fault(c.code, 2))
			equal(t, short(c.e), rev.Check(node(kind, or(not(bit(0)), one()), c.e), 3), fault(c.code, 5))
			equal(t, short(c.e), rev.Check(nots(node(kind, xor(bit(2), bit(1)), and(one(), c.e)), 10), 3), fault(c.code, 16))
		}
	}
	equal(t, "at the last node that can be", rev.Check(nots(bit(8), api.MaxNodes-1), 8), fault(api.ErrVar, api.MaxNodes-1))
	equal(t, "a variable of none", rev.Check(bit(0), 0), fault(api.ErrVar, 0))
	equal(t, "the zero expression", rev.Check(api.Expr{}, 0), fault(api.ErrKind, 0))
}

// Of several faults the first is told: the length, the variables' number, then
// node by node, of one node the kind, the parts, the variable.
func TestCheckTellsTheFirstFault(t *testing.T) {
	bad := withV(node(9, bit(-1)), 7)
	equal(t, "length first", rev.Check(nots(bad, api.MaxNodes-1), -1), fault(api.ErrLong, 0))
	equal(t, "then the number", rev.Check(bad, -1), fault(api.ErrQubits, 0))
	equal(t, "then the nodes", rev.Check(bad, 2), fault(api.ErrKind, 0))
	bad.Kind = api.BAnd
	equal(t, "parts ahead of variables", rev.Check(bad, 2), fault(api.ErrArgs, 0))
	bad.Kind = api.BNot
	equal(t, "a node ahead of those below it", rev.Check(bad, 2), fault(api.ErrVar, 0))
	bad.V = 0
	equal(t, "below", rev.Check(bad, 2), fault(api.ErrVar, 1))
	equal(t, "left ahead of right", rev.Check(and(not(bit(2)), node(0)), 2), fault(api.ErrVar, 2))
	equal(t, "right", rev.Check(and(not(bit(1)), node(0)), 2), fault(api.ErrKind, 3))
}

func TestCheckAsTheDocumentSays(t *testing.T) {
	codes := map[int]int{}
	for _, s := range badPool() {
		want := modelCheck(s.e, s.n)
		codes[want.Code]++
		equal(t, short(s), rev.Check(s.e, s.n), want)
	}
	for _, code := range []int{api.ErrLong, api.ErrQubits, api.ErrKind, api.ErrArgs, api.ErrVar} {
		if codes[code] == 0 {
			t.Errorf("no input has the fault %d", code)
		}
	}
}

// The other calls of expressions tell Check's fault ahead of their own.
func TestFaultsOfCheckComeFirst(t *testing.T) {
	for _, s := range badPool() {
		want := rev.Check(s.e, s.n)
		if want == none {
			continue
		}
		value, f := rev.Value(s.e, s.n, -1)
		equal(t, "Value", []any{value, f}, []any{0, want})
		products, f := rev.Normal(s.e, s.n)
		equal(t, "Normal", []any{products, f}, []any{[][]int{}, want})
		c, f := rev.Flat(s.e, s.n)
		equal(t, "Flat", []any{c, f}, []any{api.Circuit{}, want})
		c, f = rev.Deep(s.e, s.n)
		equal(t, "Deep", []any{c, f}, []any{api.Circuit{}, want})
	}
	room := chain(api.BAnd, append(variables(8), bit(0), bit(0), bit(0), bit(0), bit(8))...)
	_, f := rev.Deep(room, 8)
	equal(t, "Check's ahead of ErrRoom", f, fault(api.ErrVar, 24))
}
