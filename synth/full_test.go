package synth_test

import (
	"fmt"
	"slices"
	"strings"
	"testing"

	"qloom/api"
	"qloom/ring"
	"qloom/synth"
)

// table is a matrix of its rows, with bars between.
func table(text string) [][]string {
	var out [][]string
	for row := range strings.SplitSeq(text, " | ") {
		out = append(out, strings.Fields(row))
	}
	return out
}

func TestFullOfExamples(t *testing.T) {
	rt := "0,0,1,0,0,0,-1/1"
	for _, text := range []string{
		"1 0 | 0 1",
		"0 1 | 1 0",
		"1 0 | 0 0,0,1",
		"0,0,0,0,0,0,1 0 | 0 0,0,-1",
		"0 0,0,0,0,-1 | 0,0,1 0",
		rt + " " + rt + " | " + rt + " 0,0,-1,0,0,0,1/1",
		"1 0 0 0 | 0 1 0 0 | 0 0 1 0 | 0 0 0 1",
		"0 0 0 1 | 0 0 1 0 | 0 1 0 0 | 1 0 0 0",
		"0 1 0 0 | 0 0 1 0 | 0 0 0 1 | 1 0 0 0",
		"1 0 0 0 | 0 1 0 0 | 0 0 1 0 | 0 0 0 0,0,1",
		"1/1 1/1 1/1 1/1 | 1/1 -1/1 1/1 -1/1 | 1/1 1/1 -1/1 -1/1 | 1/1 -1/1 -1/1 1/1",
		"1/1 1/1 1/1 1/1 | 1/1 0,0,0,0,1/1 -1/1 0,0,0,0,-1/1 | 1/1 -1/1 1/1 -1/1 | 1/1 0,0,0,0,-1/1 -1/1 0,0,0,0,1/1",
		"-1/1 1/1 1/1 1/1 | 1/1 -1/1 1/1 1/1 | 1/1 1/1 -1/1 1/1 | 1/1 1/1 1/1 -1/1",
	} {
		fullHolds(t, table(text))
	}
	equal(t, "nothing is to be done", len(full(t, table("1 0 | 0 1")).Ops), 0)
	equal(t, "nothing is to be done", len(full(t, table("1 0 0 0 | 0 1 0 0 | 0 0 1 0 | 0 0 0 1")).Ops), 0)
}

// A row is what is left of a basis state, not what is left over at one.
func TestFullHasRowsAsMatrixTellsThem(t *testing.T) {
	for _, lines := range []string{"h 0, p 2 0", "p 2 0, h 0", "x 0, p 4 0", "p 4 0, x 0", "h 0, p 2 0, h 0, p 4 0"} {
		fullHolds(t, matrix(t, one(t, lines)))
	}
	for _, lines := range []string{"h 0, x 1 on 0", "x 1 on 0, h 0", "x 0, x 1 on 0", "x 1, x 0 on 1", "p 2 0 on 1, h 1 on 0, x 0"} {
		fullHolds(t, matrix(t, circuit(t, 2, lines)))
	}
}

// orders visits all orders of 0 to n - 1.
func orders(n int, visit func([]int)) {
	var place func(ahead []int)
	place = func(ahead []int) {
		if len(ahead) == n {
			visit(ahead)
			return
		}
		for next := range n {
			if !slices.Contains(ahead, next) {
				place(append(slices.Clone(ahead), next))
			}
		}
	}
	place(nil)
}

// roots is the matrix that has an eighth root in each row, at the places of an order.
func roots(order, eighths []int) [][]string {
	var m [][]string
	for x, at := range order {
		row := slices.Repeat([]string{"0"}, len(order))
		row[at] = ring.Root(2 * eighths[x]).Text()
		m = append(m, row)
	}
	return m
}

// Matrices in which nothing is deep: of two rows all of them, of four some of each order.
func TestFullOfRoots(t *testing.T) {
	orders(2, func(order []int) {
		for i := range 64 {
			fullHolds(t, roots(order, []int{i % 8, i / 8}))
		}
	})
	n := noise(1)
	orders(4, func(order []int) {
		fullHolds(t, roots(order, []int{0, 0, 0, 0}))
		for x := range 4 {
			eighths := []int{0, 0, 0, 0}
			for eighths[x] = 1; eighths[x] < 8; eighths[x]++ {
				fullHolds(t, roots(order, eighths))
			}
		}
		for range 50 {
			fullHolds(t, roots(order, []int{n.below(8), n.below(8), n.below(8), n.below(8)}))
		}
	})
}

// All short circuits.
func TestFullOfAllShortCircuits(t *testing.T) {
	t.Parallel()
	on0, on1 := []int{0}, []int{1}
	for _, of := range []struct {
		qubits, most int
		gates        []api.Op
	}{
		{1, 8, []api.Op{{Kind: api.H}, {Kind: api.P, K: 2}}},
		{1, 4, []api.Op{{Kind: api.H}, {Kind: api.X}, {Kind: api.P, K: 6}, {Kind: api.P, K: 12}, {Kind: api.Phase, K: 2}}},
		{2, 3, []api.Op{{Kind: api.H}, {Kind: api.H, Q: 1}, {Kind: api.H, Ctl: on1}, {Kind: api.H, Q: 1, Ctl: on0}, {Kind: api.X, Ctl: on1},
			{Kind: api.X, Q: 1, Ctl: on0}, {Kind: api.P, K: 2}, {Kind: api.P, K: 10, Q: 1, Ctl: on0}, {Kind: api.Phase, K: 14}}},
	} {
		for length := range of.most + 1 {
			rows(of.gates, length, func(ops []api.Op) {
				fullHolds(t, matrix(t, api.Circuit{Qubits: of.qubits, Ops: ops}))
			})
		}
	}
}

// tried holds Full to what is promised of any circuit's matrix of the eighth roots, and
// is the depth of the matrix.
func tried(t *testing.T, m [][]string) int {
	t.Helper()
	depth := depthOf(t, m)
	if depth <= 12 {
		fullHolds(t, m)
		return depth
	}
	c, f := synth.Full(m)
	equal(t, "too deep", []any{c, f}, []any{api.Circuit{}, fault(api.ErrMany, 0)})
	return depth
}

// Circuits of one and of two qubits, without order: matrices of each depth are tried.
func TestFullOfManyCircuits(t *testing.T) {
	for qubits := 1; qubits <= 2; qubits++ {
		t.Run(fmt.Sprint(qubits), func(t *testing.T) {
			t.Parallel()
			depths := map[int]int{}
			for i := range 3000 {
				n := noise(i)
				c := n.gates(qubits, n.below(500/qubits/qubits))
				depths[tried(t, matrix(t, c))]++
			}
			for depth := range 15 {
				equal(t, fmt.Sprint("matrices of depth ", depth, " are many"), depths[depth] > 9, true)
			}
		})
	}
}

// Two syllables make a word deeper by one or so: the deepest that may be, and those that
// are one deeper.
func TestFullOfTheDeepest(t *testing.T) {
	deepest, tooDeep := 0, 0
	for i := range 600 {
		n := noise(i)
		c := spelled(strings.Join(n.syllables(18+n.below(12)), "") + "HSH"[:n.below(4)])
		for _, m := range [][][]string{matrix(t, c), matrix(t, side(c, n.below(3)))} {
			switch tried(t, m) {
			case 12:
				deepest++
			case 13:
				tooDeep++
			}
		}
	}
	equal(t, "at the edge", deepest > 50 && tooDeep > 50, true)
}

// side is a circuit of one qubit beside another qubit: on both of two, or where the other
// one is 1, or on the second.
func side(c api.Circuit, how int) api.Circuit {
	out := api.Circuit{Qubits: 2}
	for _, op := range c.Ops {
		switch how {
		case 0:
			out.Ops = append(out.Ops, op)
			op.Q = 1
		case 1:
			op.Ctl = []int{1}
		case 2:
			op.Q = 1
		}
		out.Ops = append(out.Ops, op)
	}
	return out
}

// Circuits with odd Ks may have matrices of the eighth roots, too.
func TestFullOfSixteenthsThatMeet(t *testing.T) {
	for _, lines := range []string{
		"p 1 0, p 1 0", "h 0, p 3 0, p 15 0, h 0", "phase 1, p 1 0, phase 15, p 7 0", "phase 1, phase 1", "p 5 0, x 0, p 5 0, phase 1",
	} {
		fullHolds(t, matrix(t, one(t, lines)))
	}
	for i := range 300 {
		n := noise(i)
		c := api.Circuit{Qubits: 2}
		for _, op := range n.gates(2, n.below(30)).Ops {
			if op.Kind == api.P || op.Kind == api.Phase {
				other := op
				other.K = n.below(16)
				op.K = (op.K + 16 - other.K) % 16
				c.Ops = append(c.Ops, other)
			}
			c.Ops = append(c.Ops, op)
		}
		tried(t, matrix(t, c))
	}
	_, f := synth.Full(matrix(t, one(t, "phase 1")))
	equal(t, "one of them", f, fault(api.ErrRing, 0))
	_, f = synth.Full(matrix(t, one(t, "p 1 0")))
	equal(t, "one of them", f, fault(api.ErrRing, 1))
}

// numbers is a matrix of numbers.
type numbers [][]ring.Num

// texts are the entries as they are written.
func (m numbers) texts() [][]string {
	var out [][]string
	for _, row := range m {
		var texts []string
		for _, entry := range row {
			texts = append(texts, entry.Text())
		}
		out = append(out, texts)
	}
	return out
}

// grown is a unitary matrix that no circuit was run for: rows and columns, two by two,
// become sums and differences, and are turned and exchanged.
func (n *noise) grown(size, steps int) numbers {
	m := make(numbers, size)
	for x := range m {
		m[x] = make([]ring.Num, size)
		m[x][x] = ring.Root(0)
	}
	for range steps {
		i := n.below(size)
		j := (i + 1 + n.below(size-1)) % size
		k := 2 * n.below(8)
		byRows := n.below(2) == 0
		for y := range size {
			a, b := &m[y][i], &m[y][j]
			if byRows {
				a, b = &m[i][y], &m[j][y]
			}
			turned := b.Mul(ring.Root(k))
			*a, *b = a.Add(turned).Mul(ring.Rt()), a.Sub(turned).Mul(ring.Rt())
		}
	}
	return m
}

// Every matrix that is unitary and of the eighth roots is some circuit's.
func TestFullOfMatricesThatAreGrown(t *testing.T) {
	for _, size := range []int{2, 4} {
		t.Run(fmt.Sprint(size), func(t *testing.T) {
			t.Parallel()
			depths := map[int]int{}
			for i := range 2000 {
				n := noise(i)
				m := n.grown(size, n.below(200/size)).texts()
				equal(t, "unitary", fullFault(t, m).Code == api.ErrUnitary, false)
				depths[tried(t, m)]++
			}
			for depth := 1; depth <= 12; depth++ {
				equal(t, fmt.Sprint("matrices of depth ", depth, " are many"), depths[depth] > 5, true)
			}
		})
	}
}

// In one row nothing is deep, in the others much is; and the other way round.
func TestFullOfRowsOfUnlikeDepths(t *testing.T) {
	for i := range 400 {
		n := noise(i)
		inner := n.grown(2+n.below(2), 2+n.below(20))
		at, m := n.below(4), make(numbers, 4)
		for x := range m {
			m[x] = make([]ring.Num, 4)
			m[x][x] = ring.Root(2 * n.below(8))
		}
		place := func(x int) int { return (at + x) % 4 }
		for x, row := range inner {
			for y, entry := range row {
				m[place(x)][place(y)] = entry
			}
		}
		tried(t, m.texts())
		slices.Reverse(m)
		tried(t, m.texts())
	}
}

// Of what Full makes, Full makes a circuit that does the same.
func TestFullOfFull(t *testing.T) {
	for i := range 100 {
		n := noise(i)
		m := n.grown(4, n.below(12)).texts()
		if depthOf(t, m) <= 12 {
			fullHolds(t, matrix(t, fullHolds(t, m)))
		}
	}
}
