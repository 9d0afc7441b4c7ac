package fold_test

import (
	"fmt"
	"slices"
	"testing"

	"qloom/api"
	"qloom/state"
)

// matrix has the exact amplitudes, from every basis state.
func matrix(t *testing.T, c api.Circuit) [][]string {
	t.Helper()
	rows, f := state.Matrix(c)
	if f != none {
		t.Fatalf("Matrix of %s: %v", short(c), f)
	}
	return rows
}

// Forms that come again, that differ in 1 alone, whose turns come to 0: how many
// turns are left, and of what Phase.
func TestFormsThatComeAgain(t *testing.T) {
	for _, tried := range []struct {
		turns, phase int
		lines        []string
	}{
		{0, 0, []string{"p 0 0", "p 0 1", "phase 0"}},
		{1, 0, []string{"p 3 0", "p 4 0"}},
		{0, 0, []string{"p 3 0", "p 13 0"}},
		{0, 0, []string{"p 9 0", "p 9 0", "p 14 0"}},
		{2, 0, []string{"p 3 0", "p 4 1", "p 5 0", "p 6 1"}},
		{1, 0, []string{"p 3 0", "x 1 on 0", "p 3 0"}},
		{2, 0, []string{"p 3 0", "x 0 on 1", "p 3 0"}},
		{2, 0, []string{"p 3 0", "x 0 on 1", "p 3 0", "x 0 on 1", "p 3 0"}},
		{1, 0, []string{"p 3 0", "x 0 on 1", "p 3 0", "x 0 on 1", "p 13 0"}},
		{1, 0, []string{"x 0 on 1", "p 3 0", "x 0 on 1", "x 1 on 0", "p 4 1"}},
		{0, 0, []string{"x 0 on 1", "p 3 0", "x 0 on 1", "x 1 on 0", "p 13 1"}},
		{1, 3, []string{"p 4 0", "x 0", "p 3 0", "x 0"}},
		{1, 13, []string{"x 0", "p 3 0", "x 0", "p 13 0"}},
		{0, 3, []string{"x 0", "p 3 0", "x 0", "p 3 0"}},
		{1, 4, []string{"x 0", "p 3 0", "x 0", "p 4 0"}},
		{0, 8, []string{"p 8 0", "x 0", "p 8 0", "x 0"}},
		{0, 0, []string{"p 8 0", "x 0", "p 8 0", "x 0", "phase 8"}},
		{1, 1, []string{"p 2 0", "x 0 on 1", "x 0", "p 5 0", "x 0", "x 0 on 1", "x 0 on 1", "p 1 0", "x 0 on 1", "p 14 0"}},
		{2, 0, []string{"p 3 0", "h 0", "p 3 0"}},
		{1, 0, []string{"p 3 0", "h 0", "h 0", "p 3 0"}},
		{3, 0, []string{"p 3 0", "h 0", "p 1 0", "h 0", "p 3 0"}},
		{1, 0, []string{"p 3 0", "h 0", "p 1 0", "p 15 0", "h 0", "p 3 0"}},
		{0, 0, []string{"p 3 0", "h 0", "x 1 on 0", "p 1 0", "x 1 on 0", "p 15 0", "h 0", "p 13 0"}},
		{1, 1, []string{"h 0", "p 1 0", "x 0", "p 1 0", "x 0", "h 0", "p 2 0"}},
		{1, 0, []string{"x 1 on 0", "x 2 on 1", "p 1 2", "x 2 on 1", "x 1 on 0", "x 0 on 2", "x 0 on 1", "p 1 0"}},
		{2, 0, []string{"h 1", "x 1 on 0", "p 1 1", "x 1 on 0", "p 1 1", "h 2", "x 0 on 1", "p 2 0"}},
		{0, 0, []string{"phase 5", "x 0", "phase 11", "h 1"}},
		{0, 1, []string{"phase 5", "x 0", "phase 12", "h 1"}},
	} {
		c := circuit(t, append([]string{"qubits 3 bits 0"}, tried.lines...)...)
		d := holds(t, c)
		doesExactly(t, d, c)
		phase := 0
		for _, op := range d.Ops {
			if op.Kind == api.Phase {
				phase += op.K
			}
		}
		equal(t, fmt.Sprint(tried.lines), []int{kinds(d, api.P), phase}, []int{tried.turns, tried.phase})
		equal(t, "one Phase", kinds(d, api.Phase) <= 1, true)
	}
}

// Two turns of one form, and of two forms that differ in 1 alone, by all angles: the
// turn that is left, and the Phase.
func TestTwoTurnsByAllAngles(t *testing.T) {
	for a := range 16 {
		for b := range 16 {
			c := circuit(t, "qubits 2 bits 0", fmt.Sprintf("p %d 1", a), "x 1 on 0", "x 1 on 0", fmt.Sprintf("p %d 1", b))
			equal(t, "the same", holds(t, c), turnAndPhase(a+b, 0))
			c = circuit(t, "qubits 2 bits 0", fmt.Sprintf("p %d 1", a), "x 1 on 0", "x 1", fmt.Sprintf("p %d 1", b), "x 1 on 0", "x 1")
			equal(t, "but for 1", holds(t, c), circuitOfTwo(a, b))
		}
	}
}

// turnAndPhase is a circuit of a P on qubit 1 and a Phase, if they are not by 0.
func turnAndPhase(k, phase int) api.Circuit {
	c := api.Circuit{Qubits: 2}
	if k%16 != 0 {
		c.Ops = append(c.Ops, api.Op{Kind: api.P, K: k % 16, Q: 1})
	}
	if phase%16 != 0 {
		c.Ops = append(c.Ops, api.Op{Kind: api.Phase, K: phase % 16})
	}
	return c
}

// circuitOfTwo is what is left of a turn by a of qubit 1, and one by b of 1 less the
// qubit's and qubit 0's sum.
func circuitOfTwo(a, b int) api.Circuit {
	c := turnAndPhase(a, 0)
	if b == 0 {
		return c
	}
	flip, turn := api.Op{Kind: api.X, Q: 1, Ctl: []int{0}}, api.Op{Kind: api.P, K: b, Q: 1}
	c.Ops = append(c.Ops, flip, api.Op{Kind: api.X, Q: 1}, turn, flip, api.Op{Kind: api.X, Q: 1})
	return c
}

// tangle is a row of Xs with one control at most: forms without order.
func (n *noise) tangle(qubits, length int) []api.Op {
	var ops []api.Op
	for range length {
		order := n.order(qubits)
		ops = append(ops, api.Op{Kind: api.X, Q: order[0], Ctl: order[1 : 1+n.below(min(2, qubits))]})
	}
	return ops
}

// Circuits without Hs on few qubits: they have few forms, and these come again and
// again. All turns of one form are one.
func TestManyTurnsOfFewForms(t *testing.T) {
	t.Parallel()
	for i := range 400 {
		n := noise(i)
		qubits := 1 + n.below(4)
		c := api.Circuit{Qubits: qubits}
		for range 1 + n.below(60) {
			c.Ops = append(c.Ops, n.tangle(qubits, n.below(5))...)
			c.Ops = append(c.Ops, api.Op{Kind: api.P, K: n.below(16), Q: n.below(qubits)})
		}
		if left := kinds(holds(t, c), api.P); left >= 1<<qubits {
			t.Errorf("%d turns of %d qubits", left, qubits)
		}
	}
}

// Of turns that all come again turned back, among forms that are all there at once or
// at other times, none is left.
func TestTurnsThatComeToNothing(t *testing.T) {
	t.Parallel()
	for i := range 400 {
		n := noise(i)
		qubits := 1 + n.below(6)
		there := n.tangle(qubits, 10)
		var turns, back []api.Op
		for j, op := range there {
			k := n.below(16)
			turns = append(turns, op, api.Op{Kind: api.P, K: k, Q: j % qubits})
			back = append(back, op, api.Op{Kind: api.P, K: (16 - k) % 16, Q: j % qubits})
		}
		home := slices.Clone(there)
		slices.Reverse(home)
		c := api.Circuit{Qubits: qubits, Ops: slices.Concat(turns, home, back)}
		equal(t, short(c), formsLeft(c), 0)
		equal(t, short(c), kinds(holds(t, c), api.P), 0)
	}
}

// Between two Hs that meet, once all that is between them is gone, forms become the
// same that were not: there may be as many turns as there were forms, and there are fewer.
func TestFormsBetweenForks(t *testing.T) {
	t.Parallel()
	fewer := 0
	for i := range 1000 {
		n := noise(i)
		qubits := 2 + n.below(3)
		inner := n.plain(qubits, 1+n.below(8), 1)
		c := api.Circuit{Qubits: qubits}
		for range 4 {
			outer := n.plain(qubits, 1+n.below(4), 4)
			c.Ops = slices.Concat(outer.Ops, undone(t, inner).Ops, c.Ops, n.plain(qubits, 2, 0).Ops)
		}
		if kinds(holds(t, c), api.P) < formsLeft(c) {
			fewer++
		}
	}
	equal(t, "there are such circuits", fewer > 100, true)
}

// layers are so many of these around nothing: a turn, an X, an H, and behind them an H,
// a turn, an X. The innermost becomes a Phase, then the next one.
func layers(t *testing.T, count int) api.Circuit {
	c := api.Circuit{Qubits: 1}
	before := circuit(t, "qubits 1 bits 0", "p 1 0", "x 0", "h 0").Ops
	behind := circuit(t, "qubits 1 bits 0", "h 0", "p 1 0", "x 0").Ops
	c.Ops = append(slices.Repeat(before, count), slices.Repeat(behind, count)...)
	return c
}

func TestLayersGoOneByOne(t *testing.T) {
	for count := range 18 {
		c := layers(t, count)
		equal(t, fmt.Sprint(count), holds(t, c), holds(t, turnedAll(count)))
	}
	equal(t, "as many as there may be", formed(t, layers(t, 682)), turnedAll(682%16))
}

// turnedAll is a circuit of a Phase.
func turnedAll(k int) api.Circuit {
	c := api.Circuit{Qubits: 1}
	if k%16 != 0 {
		c.Ops = []api.Op{{Kind: api.Phase, K: k % 16}}
	}
	return c
}

// What is done to a qubit by an X with several controls is undone by the same X: its
// form comes again, and so do products of forms that are turned.
func TestFormsOfGatesWithControls(t *testing.T) {
	for _, tried := range []struct {
		turns int
		lines []string
	}{
		{2, []string{"p 1 2", "x 2 on 0 1", "p 2 2", "x 2 on 1 0", "p 4 2"}},
		{1, []string{"p 1 2", "x 2 on 0 1", "x 2", "x 2 on 1 0", "p 4 2"}},
		{2, []string{"p 1 2", "x 2 on 0 1", "p 3 1", "x 2 on 1 0", "x 1", "p 4 2"}},
		{3, []string{"p 1 2", "x 2 on 0 1", "p 1 2", "x 1", "x 2 on 0 1", "p 4 2"}},
		{1, []string{"p 1 2 on 0", "x 1 on 0", "p 2 0 on 2"}},
		{2, []string{"p 1 2 on 0", "x 0 on 1", "p 2 0 on 2"}},
		{1, []string{"p 1 2 on 0", "x 0 on 1", "x 0 on 1", "p 2 0 on 2"}},
		{1, []string{"p 1 2 on 0", "x 2 on 1", "x 1 on 2", "x 2 on 1", "p 2 1 on 0"}},
		{2, []string{"p 1 2 on 0", "x 0", "p 15 2 on 0"}},
		{0, []string{"p 1 2 on 0 1", "x 3 on 2", "h 3", "p 15 0 on 1 2"}},
		{2, []string{"p 1 2 on 0 1", "x 1 on 3", "p 15 0 on 1 2"}},
		{2, []string{"p 1 2 on 0", "p 1 2 on 1"}},
		{2, []string{"p 1 2 on 0", "h 2 on 0", "p 1 2 on 0"}},
		{2, []string{"p 1 2", "h 2 on 0 1", "p 1 2"}},
		{1, []string{"p 1 2", "h 2 on 0 1", "h 2 on 1 0", "p 1 2"}},
	} {
		c := circuit(t, append([]string{"qubits 4 bits 0"}, tried.lines...)...)
		d := holds(t, c)
		doesExactly(t, d, c)
		equal(t, fmt.Sprint(tried.lines), kinds(d, api.P), tried.turns)
	}
}
