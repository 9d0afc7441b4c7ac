package fold_test

import (
	"fmt"
	"maps"
	"slices"
	"testing"

	"qloom/api"
	"qloom/circ"
	"qloom/state"
)

// What the document says, written out once more: how many forms are left of a plain
// circuit, what a circuit does, and what is promised of Slim's circuit.

// isPlain: has the circuit no gates but Xs with at most one control, and Hs, Ps and
// Phases without controls?
func isPlain(c api.Circuit) bool {
	for _, op := range c.Ops {
		if len(op.Ctl) > 1 || len(op.Ctl) == 1 && op.Kind != api.X {
			return false
		}
	}
	return true
}

// form is a sum modulo 2: the variables that stand in it, and -1, if 1 does.
type form map[int]bool

func (f form) add(other form) {
	for v := range other {
		if f[v] {
			delete(f, v)
		} else {
			f[v] = true
		}
	}
}

// variables are those of a form, told.
func (f form) variables() string {
	list := slices.Sorted(maps.Keys(f))
	return fmt.Sprint(slices.DeleteFunc(list, func(v int) bool { return v < 0 }))
}

// formsLeft is how many forms, told apart but for 1, have turns that don't come to 0.
func formsLeft(c api.Circuit) int {
	is := make([]form, c.Qubits)
	for q := range is {
		is[q] = form{q: true}
	}
	next := c.Qubits
	turns := map[string]int{}
	for _, op := range c.Ops {
		switch {
		case op.Kind == api.X && len(op.Ctl) == 0:
			is[op.Q].add(form{-1: true})
		case op.Kind == api.X:
			is[op.Q].add(is[op.Ctl[0]])
		case op.Kind == api.H:
			is[op.Q] = form{next: true}
			next++
		case op.Kind == api.P && is[op.Q][-1]:
			turns[is[op.Q].variables()] -= op.K
		case op.Kind == api.P:
			turns[is[op.Q].variables()] += op.K
		}
	}
	count := 0
	for _, k := range turns {
		if k%16 != 0 {
			count++
		}
	}
	return count
}

// Modulo prime there are sixteenth roots of one, root among them, and roots of two:
// what is the same in exact numbers is the same there, and what is not is hardly so.
const (
	prime = 15<<27 + 1
	root  = 196396260 // its eighth power is -1
)

func times(a, b uint64) uint64 { return a * b % prime }

// turned is an amplitude turned by k sixteenths.
func turned(a uint64, k int) uint64 {
	for range k {
		a = times(a, root)
	}
	return a
}

// done does an operation to the amplitudes of all basis states.
func done(wave []uint64, op api.Op) {
	controls := 0
	for _, q := range op.Ctl {
		controls |= 1 << q
	}
	bit := 1 << op.Q
	half := times(turned(1, 2)+turned(1, 14), (prime+1)/2)
	turn := turned(1, op.K)
	for x := range wave {
		switch {
		case op.Kind == api.Phase:
			wave[x] = times(wave[x], turn)
		case x&controls != controls || x&bit == 0:
		case op.Kind == api.P:
			wave[x] = times(wave[x], turn)
		case op.Kind == api.X:
			wave[x], wave[x^bit] = wave[x^bit], wave[x]
		case op.Kind == api.H:
			a, b := wave[x^bit], wave[x]
			wave[x^bit], wave[x] = times(a+b, half), times(a+prime-b, half)
		}
	}
}

// leaves is what a circuit leaves of amplitudes of all basis states that are without
// order: what two circuits leave is hardly ever the same, if they don't do the same
// from every basis state.
func leaves(c api.Circuit) []uint64 {
	n := noise(77)
	wave := make([]uint64, 1<<c.Qubits)
	for x := range wave {
		wave[x] = uint64(n.below(prime))
	}
	for _, op := range c.Ops {
		done(wave, op)
	}
	return wave
}

// does holds a circuit to doing what another does.
func does(t *testing.T, d, c api.Circuit) {
	t.Helper()
	if !slices.Equal(leaves(d), leaves(c)) {
		t.Errorf("%s does not what %s does", short(d), short(c))
	}
}

// doesExactly holds a circuit to the amplitudes that another has, from every basis
// state.
func doesExactly(t *testing.T, d, c api.Circuit) {
	t.Helper()
	for in := range 1 << c.Qubits {
		want, f := state.Run(c, in, nil)
		got, g := state.Run(d, in, nil)
		if f != none || g != none || !slices.Equal(got.Amps, want.Amps) || !slices.Equal(got.Bits, want.Bits) {
			t.Fatalf("from %d %s does not what %s does: %s, %v, want %s, %v", in, short(d), short(c), short(got), g, short(want), f)
		}
	}
}

// formed holds Slim's circuit to all that is promised, but for what it does.
func formed(t *testing.T, c api.Circuit) api.Circuit {
	t.Helper()
	d := slim(t, c)
	equal(t, "Pure", circ.Pure(d), none)
	equal(t, "qubits and bits", []int{d.Qubits, d.Bits}, []int{c.Qubits, c.Bits})
	got, had := numbers(t, d), numbers(t, c)
	if got.Ops > had.Ops || got.Fork > had.Fork || got.Fine > had.Fine {
		t.Errorf("more than there were: %+v of %+v: %s of %s", got, had, short(d), short(c))
	}
	if left := kinds(d, api.P); isPlain(c) && left > formsLeft(c) {
		t.Errorf("%d turns for %d forms: %s of %s", left, formsLeft(c), short(d), short(c))
	}
	if again := slim(t, d); fmt.Sprint(again) != fmt.Sprint(d) {
		t.Errorf("Slim again: %s of %s", short(again), short(d))
	}
	return d
}

// holds holds Slim's circuit to all that is promised.
func holds(t *testing.T, c api.Circuit) api.Circuit {
	t.Helper()
	d := formed(t, c)
	does(t, d, c)
	return d
}
