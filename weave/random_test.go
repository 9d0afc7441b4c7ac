package weave_test

import (
	"fmt"
	"testing"

	"qloom/api"
	"qloom/circ"
	"qloom/ring"
	"qloom/state"
	"qloom/tongue"
	"qloom/weave"
)

// shotOf is what a run of deeds leaves.
func shotOf(m *model, deeds []deed, in int, tape []int) (shot api.Shot, asks bool) {
	r := &run{amps: make([]ring.Num, 1<<m.qubits), bits: make([]int, m.bits), tape: tape}
	r.amps[in] = ring.Root(0)
	r.do(deeds)
	if r.asks {
		return api.Shot{}, true
	}
	shot = api.Shot{Bits: r.bits, Used: r.used}
	for _, a := range r.amps {
		shot.Amps = append(shot.Amps, a.Text())
	}
	return shot, false
}

// holdMeaning holds a program to what the model says of it: its fault, or what it
// does from every basis state with every tape.
func holdMeaning(t *testing.T, text string) api.Fault {
	t.Helper()
	program, f := tongue.Parse(text)
	if f != none {
		t.Fatalf("Parse of %s: %v", short(text), f)
	}
	m, deeds, want := meaning(program)
	c, got := weave.Expand(program)
	if got != want {
		t.Errorf("Expand of %s: %v, want %v", short(text), got, want)
		return want
	}
	if want != none {
		equal(t, text+": beside a fault", c, api.Circuit{})
		return want
	}
	equal(t, text+": its circuit", circ.Check(c), none)
	equal(t, text+": qubits and bits", []int{c.Qubits, c.Bits}, []int{m.qubits, m.bits})
	for in := range 1 << m.qubits {
		runs(func(tape []int) bool {
			what := fmt.Sprint(text, " from ", in, " with ", tape)
			want, asks := shotOf(m, deeds, in, tape)
			got, f := state.Run(c, in, tape)
			equal(t, what, got, want)
			equal(t, what+": too short a tape", f.Code == api.ErrTape, asks)
			return asks && !t.Failed()
		})
	}
	return none
}

func TestProgramsMeanWhatTheModelSays(t *testing.T) {
	t.Parallel()
	a := author{noise: 1}
	good, bad := 0, 0
	for i := range 1000 {
		if holdMeaning(t, a.program(5+i%40)) == none {
			good++
		} else {
			bad++
		}
		if t.Failed() {
			return
		}
	}
	if good < 800 {
		t.Errorf("only %d of %d programs are without a fault", good, good+bad)
	}
}

func TestFaultsAreThoseOfTheModel(t *testing.T) {
	t.Parallel()
	seen := map[int]int{}
	for i := range 8000 {
		a := author{noise: noise(1000 + i), mischief: 2 + i%40}
		text := a.program(5 + i%30)
		program := parsed(t, text)
		_, _, want := meaning(program)
		c, got := weave.Expand(program)
		if got != want {
			t.Fatalf("Expand of %s: %v, want %v", short(text), got, want)
		}
		if want != none {
			equal(t, text+": beside a fault", c, api.Circuit{})
		}
		seen[want.Code]++
	}
	for _, code := range []int{0, api.ErrZero, api.ErrQubits, api.ErrBits, api.ErrClone, api.ErrBit, api.ErrUnitary, api.ErrArgs, api.ErrSize, api.ErrName, api.ErrTwice, api.ErrType, api.ErrRange, api.ErrSteps} {
		if seen[code] < 5 {
			t.Errorf("the fault %d is met %d times only", code, seen[code])
		}
	}
	t.Logf("how often each fault is met: %v", seen)
}
