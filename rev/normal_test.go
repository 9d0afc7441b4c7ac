package rev_test

import (
	"math"
	"slices"
	"testing"

	"qloom/api"
	"qloom/rev"
)

func value(t *testing.T, e api.Expr, n, x int) int {
	t.Helper()
	out, f := rev.Value(e, n, x)
	if f != none {
		t.Errorf("Value of %s, %d, %d: %v", short(e), n, x, f)
	}
	return out
}

// values are those of all inputs.
func values(t *testing.T, e api.Expr, n int) []int {
	t.Helper()
	var out []int
	for x := range 1 << n {
		out = append(out, value(t, e, n, x))
	}
	return out
}

func TestValueOfEachKind(t *testing.T) {
	a, b := bit(0), bit(1)
	for _, c := range []struct {
		e    api.Expr
		want []int
	}{
		{a, []int{0, 1, 0, 1}}, {b, []int{0, 0, 1, 1}}, {one(), []int{1, 1, 1, 1}}, {not(a), []int{1, 0, 1, 0}}, {not(one()), []int{0, 0, 0, 0}},
		{and(a, b), []int{0, 0, 0, 1}}, {or(a, b), []int{0, 1, 1, 1}}, {xor(a, b), []int{0, 1, 1, 0}},
		{and(a, not(b)), []int{0, 1, 0, 0}}, {or(not(a), b), []int{1, 0, 1, 1}}, {xor(a, a), []int{0, 0, 0, 0}}, {or(a, a), []int{0, 1, 0, 1}}, {and(b, b), []int{0, 0, 1, 1}},
		{not(and(or(a, b), not(xor(b, one())))), []int{1, 1, 0, 0}},
	} {
		equal(t, short(c.e), values(t, c.e, 2), c.want)
	}
}

func TestValueAsTheDocumentSays(t *testing.T) {
	for _, s := range append(pool(), bigPool()...) {
		for x := range 1 << s.n {
			equal(t, short(s), value(t, s.e, s.n, x), modelValue(s.e, x))
		}
	}
}

func TestValueOfInputs(t *testing.T) {
	for n := range api.MaxWires + 1 {
		e := chain(api.BXor, append(variables(n), one())...)
		equal(t, "the first input", value(t, e, n, 0), 1)
		equal(t, "the last input", value(t, e, n, 1<<n-1), 1-n%2)
		for _, x := range []int{math.MinInt64, -256, -1, 1 << n, 1<<n + 1, 256, 1 << 32, math.MaxInt64} {
			got, f := rev.Value(e, n, x)
			equal(t, "no input", []any{got, f}, []any{0, fault(api.ErrInput, 0)})
		}
	}
}

func TestNormalOfSmallExpressions(t *testing.T) {
	a, b, c := bit(0), bit(1), bit(2)
	for _, s := range []struct {
		e    api.Expr
		want string
	}{
		{or(a, b), "[[0] [1] [0 1]]"}, {not(a), "[[] [0]]"}, {one(), "[[]]"}, {zero(), "[]"}, {xor(b, b), "[]"}, {and(a, not(a)), "[]"}, {or(a, not(a)), "[[]]"}, {and(one(), one()), "[[]]"},
		{c, "[[2]]"}, {and(c, a), "[[0 2]]"}, {and(and(c, b), a), "[[0 1 2]]"}, {and(a, a), "[[0]]"}, {or(c, c), "[[2]]"}, {xor(c, xor(b, a)), "[[0] [1] [2]]"},
		{not(or(or(a, b), c)), "[[] [0] [1] [2] [0 1] [0 2] [1 2] [0 1 2]]"},
		{or(and(a, b), and(b, c)), "[[0 1] [1 2] [0 1 2]]"},
		{xor(and(a, b), and(b, a)), "[]"},
		{xor(xor(and(b, c), and(bit(3), a)), and(and(a, b), c)), "[[0 3] [1 2] [0 1 2]]"},
	} {
		equal(t, short(s.e), normal(t, s.e, 4), s.want)
	}
	equal(t, "no variables", normal(t, one(), 0), "[[]]")
	equal(t, "no variables", normal(t, or(zero(), zero()), 0), "[]")
}

// isAhead: does product a come ahead of b, and is it unlike it?
func isAhead(a, b []int) bool {
	if len(a) != len(b) {
		return len(a) < len(b)
	}
	for i := range a {
		if a[i] != b[i] {
			return a[i] < b[i]
		}
	}
	return false
}

// holdNormal holds products to what the document says. There is just one list
// of which all of it is true.
func holdNormal(t *testing.T, s sample, products [][]int) {
	t.Helper()
	for i, product := range products {
		for j, v := range product {
			if v < 0 || v >= s.n || j > 0 && product[j-1] >= v {
				t.Errorf("%s: the product %v", short(s), product)
			}
		}
		if i > 0 && !isAhead(products[i-1], product) {
			t.Errorf("%s: %v ahead of %v", short(s), products[i-1], product)
		}
	}
	for x := range 1 << s.n {
		sum := 0
		for _, product := range products {
			if !slices.ContainsFunc(product, func(v int) bool { return x>>v&1 == 0 }) {
				sum = 1 - sum
			}
		}
		if sum != modelValue(s.e, x) {
			t.Errorf("%s: the sum where x is %d: %d", short(s), x, sum)
		}
	}
}

func TestNormalIsTheNormalForm(t *testing.T) {
	empty := 0
	for _, s := range append(pool(), bigPool()...) {
		products := normal(t, s.e, s.n)
		holdNormal(t, s, products)
		if len(products) == 0 {
			empty++
		}
	}
	if empty == 0 {
		t.Error("no normal form is empty")
	}
}

// Of as many variables as can be there are as many products as can be.
func TestNormalOfAllProducts(t *testing.T) {
	e := not(chain(api.BOr, variables(api.MaxWires)...))
	products := normal(t, e, api.MaxWires)
	equal(t, "products", len(products), 1<<api.MaxWires)
	holdNormal(t, sample{e, api.MaxWires}, products)
}

// A nest of as many nodes as can be is worked through in no time, also where
// each part counts more than once in what it becomes.
func TestDeepNests(t *testing.T) {
	for _, kind := range []int{api.BAnd, api.BOr, api.BXor} {
		left, right := bit(0), bit(0)
		for i := range 199 {
			left, right = node(kind, left, bit(i%8)), node(kind, bit(i%8), right)
		}
		for _, e := range []api.Expr{left, right, not(left)} {
			holdNormal(t, sample{e, 8}, normal(t, e, 8))
		}
	}
	equal(t, "399 nots", normal(t, nots(bit(3), 399), 8), "[[] [3]]")
}

// Further variables change nothing.
func TestNormalHangsNotOnVariablesThatAreNotNamed(t *testing.T) {
	for _, s := range pool() {
		equal(t, short(s), normal(t, s.e, api.MaxWires), normal(t, s.e, s.n))
	}
}
