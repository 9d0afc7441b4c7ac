package rev_test

import (
	"math"
	"math/bits"
	"slices"
	"testing"

	"qloom/api"
	"qloom/circ"
	"qloom/rev"
	"qloom/state"
)

// holdTable holds Table's circuit to all that the document says of it.
func holdTable(t *testing.T, p []int) {
	t.Helper()
	c := table(t, p...)
	n := bits.Len(uint(len(p))) - 1
	equal(t, "a table's circuit", circ.Check(c), none)
	equal(t, "its qubits and bits", []int{c.Qubits, c.Bits}, []int{n, 0})
	if len(c.Ops) > n*len(p) {
		t.Errorf("%v: %d operations", p, len(c.Ops))
	}
	for _, op := range c.Ops {
		if op.Kind != api.X || len(op.If) > 0 {
			t.Errorf("%v: the operation %+v", p, op)
		}
	}
	for x, want := range p {
		got, f := modelPlay(c, x)
		if got != want || f != none {
			t.Errorf("%v: from %d: %d, %v", p, x, got, f)
		}
		equal(t, "Play", play(t, c, x), want)
	}
}

// permutations are all of 0 to length - 1.
func permutations(length int) [][]int {
	if length == 0 {
		return [][]int{nil}
	}
	var out [][]int
	for _, shorter := range permutations(length - 1) {
		for i := range length {
			out = append(out, slices.Insert(slices.Clone(shorter), i, length-1))
		}
	}
	return out
}

func TestTableOfAllSmallPermutations(t *testing.T) {
	for _, length := range []int{2, 4} {
		all := permutations(length)
		equal(t, "permutations", len(all), map[int]int{2: 2, 4: 24}[length])
		for _, p := range all {
			holdTable(t, p)
		}
	}
	seed := noise(5)
	all := permutations(8)
	for range 2000 {
		holdTable(t, all[seed.below(len(all))])
	}
}

// listed is the list of what tell says of 0 to length - 1.
func listed(length int, tell func(x int) int) []int {
	out := make([]int, length)
	for x := range out {
		out[x] = tell(x)
	}
	return out
}

func TestTableOfEachSize(t *testing.T) {
	seed := noise(6)
	for n := 1; n <= 6; n++ {
		size := 1 << n
		holdTable(t, listed(size, func(x int) int { return x }))
		holdTable(t, listed(size, func(x int) int { return size - 1 - x }))
		holdTable(t, listed(size, func(x int) int { return x ^ x>>1 }))
		holdTable(t, listed(size, func(x int) int { return int(bits.Reverse64(uint64(x)) >> (64 - n)) }))
		for step := range size {
			holdTable(t, listed(size, func(x int) int { return (x + step) % size }))
			holdTable(t, listed(size, func(x int) int { return x ^ step }))
			holdTable(t, listed(size, func(x int) int { return x * (2*step + 1) % size }))
		}
		for range 60 {
			holdTable(t, seed.order(size))
			p := listed(size, func(x int) int { return x })
			a, b := seed.below(size), seed.below(size)
			p[a], p[b] = p[b], p[a]
			holdTable(t, p)
		}
	}
	equal(t, "nothing to do", len(table(t, 0, 1, 2, 3).Ops), 0)
}

func TestTableOfOneExchangeDoesWhatXDoes(t *testing.T) {
	got, f := state.Matrix(table(t, 1, 0))
	equal(t, "Matrix", f, none)
	want, _ := state.Matrix(circuit(t, "qubits 1 bits 0", "x 0"))
	equal(t, "1 0", got, want)
	p := []int{6, 3, 0, 7, 1, 5, 2, 4}
	got, f = state.Matrix(table(t, p...))
	equal(t, "Matrix", f, none)
	for x, row := range got {
		for y, amplitude := range row {
			equal(t, "an amplitude", amplitude == "1", y == p[x])
		}
	}
}

func TestTableOfWrongSizes(t *testing.T) {
	for length := range 140 {
		p := listed(length, func(x int) int { return length - 1 - x })
		c, f := rev.Table(p)
		if slices.Contains([]int{2, 4, 8, 16, 32, 64}, length) {
			equal(t, "a size", f, none)
			continue
		}
		equal(t, "no size", []any{c, f}, []any{api.Circuit{}, fault(api.ErrSize, 0)})
	}
	for _, p := range [][]int{nil, {}, {-1}, {5, 5, 5}, make([]int, 65), make([]int, 128), make([]int, 1<<16)} {
		c, f := rev.Table(p)
		equal(t, "the size ahead of what stands in it", []any{c, f}, []any{api.Circuit{}, fault(api.ErrSize, 0)})
	}
}

func TestTableOfNoPermutations(t *testing.T) {
	for _, s := range []struct {
		at int
		p  []int
	}{
		{1, []int{0, 0}}, {1, []int{1, 1}}, {0, []int{2, 0}}, {1, []int{0, 2}}, {0, []int{-1, -1}}, {1, []int{1, -1}}, {0, []int{math.MinInt64, math.MaxInt64}}, {1, []int{1, math.MaxInt64}},
		{2, []int{3, 1, 3, 0}}, {3, []int{3, 1, 2, 3}}, {3, []int{0, 1, 2, 4}}, {1, []int{0, 4, 0, 0}}, {0, []int{-1, 9, 1, 1}}, {2, []int{0, 1, 1, -1}}, {1, []int{0, 1 << 32, 1, 2}},
	} {
		c, f := rev.Table(s.p)
		equal(t, short(s.p), []any{c, f}, []any{api.Circuit{}, fault(api.ErrTable, s.at)})
	}
	seed := noise(7)
	for i := range 600 {
		p := seed.order(2 << (i % 6))
		for range 1 + i%3 {
			p[seed.below(len(p))] = []int{seed.odd(), len(p), len(p) - 1, 0, -1, seed.below(len(p))}[seed.below(6)]
		}
		_, f := rev.Table(p)
		equal(t, short(p), f, modelTable(p))
	}
}
