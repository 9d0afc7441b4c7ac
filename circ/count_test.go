package circ_test

import (
	"slices"
	"testing"

	"qloom/api"
	"qloom/circ"
)

func TestCount(t *testing.T) {
	for _, tried := range []struct {
		lines []string
		want  api.Tally
	}{
		{[]string{"qubits 1 bits 0"}, api.Tally{}},
		{[]string{"qubits 2 bits 1", "h 0", "x 1 on 0", "measure 1 to 0 if !0"}, api.Tally{Ops: 3, Fork: 1, Wide: 1, Meets: 1, Levels: 3}},
		{[]string{"qubits 3 bits 0", "h 0", "h 1", "h 2 on 0 1", "x 0"}, api.Tally{Ops: 4, Fork: 3, Wide: 1, Levels: 3}},
		{[]string{"qubits 1 bits 0", "p 0 0", "p 4 0", "p 8 0", "p 12 0"}, api.Tally{Ops: 4, Levels: 4}},
		{[]string{"qubits 2 bits 0", "p 1 0", "p 2 0", "p 3 0", "p 5 0 on 1", "p 15 0", "p 14 1"}, api.Tally{Ops: 6, Fine: 6, Wide: 1, Levels: 5}},
		{[]string{"qubits 1 bits 0", "phase 1", "phase 2", "phase 3"}, api.Tally{Ops: 3, Levels: 1}},
		{[]string{"qubits 1 bits 0", "x 0", "phase 2", "x 0"}, api.Tally{Ops: 3, Levels: 2}},
		{[]string{"qubits 1 bits 1", "phase 2 if 0", "phase 2 if !0", "x 0"}, api.Tally{Ops: 3, Levels: 2}},
		{[]string{"qubits 2 bits 1", "x 0 if 0", "x 1 if 0"}, api.Tally{Ops: 2, Levels: 2}},
		{[]string{"qubits 2 bits 2", "x 0 if 0", "x 1 if 1"}, api.Tally{Ops: 2, Levels: 1}},
		{[]string{"qubits 2 bits 2", "measure 0 to 0", "measure 1 to 0"}, api.Tally{Ops: 2, Meets: 2, Levels: 2}},
		{[]string{"qubits 2 bits 2", "measure 0 to 0", "measure 1 to 1"}, api.Tally{Ops: 2, Meets: 2, Levels: 1}},
		{[]string{"qubits 2 bits 2", "measure 0 to 1", "x 1 if !1"}, api.Tally{Ops: 2, Meets: 1, Levels: 2}},
		{[]string{"qubits 2 bits 2", "measure 0 to 0", "x 1", "reset 1"}, api.Tally{Ops: 3, Meets: 2, Levels: 2}},
		{[]string{"qubits 2 bits 2", "x 0 if 0", "x 1", "x 0 if 1"}, api.Tally{Ops: 3, Levels: 2}},
		{[]string{"qubits 3 bits 1", "x 0", "x 0", "x 1", "x 2 on 1 0", "x 1"}, api.Tally{Ops: 5, Wide: 1, Levels: 4}},
		{[]string{"qubits 12 bits 12", "x 11", "measure 11 to 11", "x 0 if !11", "reset 0"}, api.Tally{Ops: 4, Meets: 2, Levels: 4}},
		{[]string{"qubits 12 bits 12", "x 0", "measure 1 to 0", "x 11", "measure 10 to 11"}, api.Tally{Ops: 4, Meets: 2, Levels: 1}},
		{[]string{"qubits 1 bits 1", "h 0 if 0 0 !0", "p 2 0 if !0"}, api.Tally{Ops: 2, Fork: 1, Fine: 1, Levels: 2}},
	} {
		got, f := circ.Count(circuit(t, tried.lines...))
		equal(t, text(tried.lines...), f, none)
		equal(t, text(tried.lines...), got, tried.want)
	}
	got, f := circ.Count(rows(api.MaxOps, api.Op{Kind: api.H, Q: 1, Ctl: []int{0}}))
	equal(t, "many", f, none)
	equal(t, "many", got, api.Tally{Ops: api.MaxOps, Fork: api.MaxOps, Wide: api.MaxOps, Levels: api.MaxOps})
}

func TestCountTellsChecksFault(t *testing.T) {
	for _, c := range badPool() {
		got, f := circ.Count(c)
		equal(t, "a fault", f, wantedCheck(c))
		if f != none {
			equal(t, "with a fault", got, api.Tally{})
		}
	}
}

// things are what an operation touches, by names.
func things(op api.Op) []any {
	type qubit int
	type bit int
	var out []any
	if op.Kind != api.Phase {
		out = append(out, qubit(op.Q))
	}
	for _, q := range op.Ctl {
		out = append(out, qubit(q))
	}
	if op.Kind == api.Measure {
		out = append(out, bit(op.Bit))
	}
	for _, term := range op.If {
		out = append(out, bit(max(term, -term)-1))
	}
	return out
}

// wantedTally goes through all pairs of operations.
func wantedTally(c api.Circuit) api.Tally {
	tally := api.Tally{Ops: len(c.Ops)}
	var levels []int
	for i, op := range c.Ops {
		level := 1
		for j, ahead := range c.Ops[:i] {
			meet := slices.ContainsFunc(things(op), func(thing any) bool { return slices.Contains(things(ahead), thing) })
			if meet {
				level = max(level, levels[j]+1)
			}
		}
		levels = append(levels, level)
		tally.Levels = max(tally.Levels, level)
		for count, holds := range map[*int]bool{
			&tally.Fork: op.Kind == api.H, &tally.Fine: op.Kind == api.P && op.K%4 != 0, &tally.Wide: len(op.Ctl) > 0,
			&tally.Meets: op.Kind == api.Measure || op.Kind == api.Reset,
		} {
			if holds {
				*count++
			}
		}
	}
	return tally
}

func TestCountOfManyCircuits(t *testing.T) {
	seed := noise(17)
	for i := range 400 {
		c := seed.circuit(i % 25)
		got, f := circ.Count(c)
		equal(t, "Count", f, none)
		equal(t, printed(t, c), got, wantedTally(c))
	}
}
