package route_test

import (
	"fmt"
	"slices"
	"testing"

	"qloom/api"
	"qloom/circ"
	"qloom/route"
	"qloom/state"
)

// What the document says, written out once more: which faults devices, circuits and
// times have, what form Fit's circuits have and what they do, run side by side with
// those that they were made of, and when operations begin.

// areLinked: is one of the links that of the two?
func areLinked(d api.Device, a, b int) bool {
	return slices.Contains(d.Links, [2]int{a, b}) || slices.Contains(d.Links, [2]int{b, a})
}

// isWhole: does a way lead from each qubit to each other one? Qubits that are linked
// get the lower one's name, as often as there can be names.
func isWhole(d api.Device) bool {
	names := span(d.N)
	for range d.N {
		for _, link := range d.Links {
			low := min(names[link[0]], names[link[1]])
			names[link[0]], names[link[1]] = low, low
		}
	}
	return slices.Max(names) == 0
}

// deviceFault is the fault that Check is to answer.
func deviceFault(d api.Device) api.Fault {
	if d.N < 1 || d.N > 12 {
		return fault(api.ErrQubits, 0)
	}
	isQubit := func(q int) bool { return 0 <= q && q <= d.N-1 }
	for at, link := range d.Links {
		if !isQubit(link[0]) || !isQubit(link[1]) {
			return fault(api.ErrQubit, at)
		}
		if link[0] == link[1] {
			return fault(api.ErrClone, at)
		}
		if areLinked(api.Device{Links: d.Links[:at]}, link[0], link[1]) {
			return fault(api.ErrTwice, at)
		}
	}
	if !isWhole(d) {
		return fault(api.ErrApart, 0)
	}
	return none
}

// controlFault is that of controls that no device can do.
func controlFault(c api.Circuit) api.Fault {
	for at, op := range c.Ops {
		switch {
		case len(op.Ctl) == 0:
		case len(op.Ctl) == 1 && op.Kind == api.X:
		default:
			return fault(api.ErrControl, at)
		}
	}
	return none
}

// room is how many operations Fit's circuit may have.
func room(c api.Circuit, n int) int {
	out := len(c.Ops)
	for _, op := range c.Ops {
		if n > 2 && len(op.Ctl) == 1 {
			out += 3 * (n - 2)
		}
	}
	return out
}

// fitFault is the fault that Fit is to answer.
func fitFault(c api.Circuit, d api.Device) api.Fault {
	for _, f := range []api.Fault{circ.Check(c), deviceFault(d)} {
		if f != none {
			return f
		}
	}
	if c.Qubits > d.N {
		return fault(api.ErrRoom, 0)
	}
	if f := controlFault(c); f != none {
		return f
	}
	if room(c, d.N) > 4096 {
		return fault(api.ErrMany, 0)
	}
	return none
}

// timesFault is the fault that Schedule is to answer.
func timesFault(c api.Circuit, times api.Times) api.Fault {
	for _, f := range []api.Fault{circ.Check(c), controlFault(c)} {
		if f != none {
			return f
		}
	}
	for at, lasts := range []int{times.One, times.Two, times.Turn, times.Look} {
		if lasts < 0 || lasts > 1000000 {
			return fault(api.ErrRange, at)
		}
	}
	return none
}

// formed is Fit's answer where nothing is refused, held to its form.
func formed(t *testing.T, c api.Circuit, d api.Device) api.Routed {
	t.Helper()
	out := fit(t, c, d)
	what := "Fit of " + short(c) + " on " + short(d)
	if f := circ.Check(out.Circuit); f != none {
		t.Errorf("%s has the fault %v: %s", what, f, short(out))
	}
	if f := controlFault(out.Circuit); f != none {
		t.Errorf("%s: no basic gate at %d: %s", what, f.At, short(out))
	}
	if out.Circuit.Qubits != d.N || out.Circuit.Bits != c.Bits {
		t.Errorf("%s: %d qubits and %d bits", what, out.Circuit.Qubits, out.Circuit.Bits)
	}
	if got, most := len(out.Circuit.Ops), room(c, d.N); got > most {
		t.Errorf("%s: %d operations, not more than %d may be", what, got, most)
	}
	for at, op := range out.Circuit.Ops {
		if len(op.Ctl) == 1 && !areLinked(d, op.Q, op.Ctl[0]) {
			t.Errorf("%s: at %d two qubits that are not linked: %v", what, at, op)
		}
	}
	placed(t, what, out.Start, c.Qubits, d.N)
	placed(t, what, out.End, c.Qubits, d.N)
	return out
}

// placed holds places to being of as many qubits, on the device, and unlike.
func placed(t *testing.T, what string, places []int, qubits, n int) {
	t.Helper()
	seen := map[int]int{}
	for _, place := range places {
		seen[place]++
		if place < 0 || place >= n || seen[place] > 1 {
			t.Errorf("%s: places %v", what, places)
		}
	}
	equal(t, what+": how many places", len(places), qubits)
}

// standing is the basis state of a device in which qubits stand at their places, and
// all others are 0.
func standing(x int, places []int) int {
	out := 0
	for q, place := range places {
		out |= x >> q & 1 << place
	}
	return out
}

// does holds Fit's circuit to what a circuit does, from every basis state and with
// every tape.
func does(t *testing.T, c api.Circuit, d api.Device) {
	t.Helper()
	doesFrom(t, c, d, span(1<<c.Qubits))
}

// doesFrom is does, from some basis states alone.
func doesFrom(t *testing.T, c api.Circuit, d api.Device, ins []int) {
	t.Helper()
	out := formed(t, c, d)
	for _, in := range ins {
		tapes(func(tape []int) bool { return alike(t, c, out, in, tape) == api.ErrTape })
	}
}

// mostTapes is how many tapes of one run are tried.
const mostTapes = 200

// tapes ranges over the tapes of a run, from the empty one on. Behind one with which
// the run asks for more come those with one outcome more, or with what is none.
func tapes(run func(tape []int) (asks bool)) {
	waiting := [][]int{nil}
	for tried := 0; len(waiting) > 0 && tried < mostTapes; tried++ {
		tape := waiting[0]
		waiting = waiting[1:]
		if run(tape) {
			for _, outcome := range []int{0, 1, 2} {
				waiting = append(waiting, append(slices.Clone(tape), outcome))
			}
		}
	}
}

// alike holds a run to another's, and is the code with which that one is refused.
func alike(t *testing.T, c api.Circuit, out api.Routed, in int, tape []int) int {
	t.Helper()
	want, f := state.Run(c, in, tape)
	got, g := state.Run(out.Circuit, standing(in, out.Start), tape)
	if g.Code != f.Code || got.Used != want.Used || !slices.Equal(got.Bits, want.Bits) {
		t.Errorf("Fit of %s from %d with %v: %v %v %d, want %v %v %d", short(c), in, tape, g, got.Bits, got.Used, f, want.Bits, want.Used)
	}
	if f == none && g == none {
		amps := slices.Repeat([]string{"0"}, 1<<out.Circuit.Qubits)
		for x, amp := range want.Amps {
			amps[standing(x, out.End)] = amp
		}
		if !slices.Equal(got.Amps, amps) {
			t.Errorf("Fit of %s from %d with %v: %s, want %s", short(c), in, tape, short(got.Amps), short(amps))
		}
	}
	return f.Code
}

// things is what an operation touches, by names.
func things(op api.Op) []string {
	var out []string
	if op.Kind != api.Phase {
		out = append(out, fmt.Sprint("qubit ", op.Q))
	}
	for _, q := range op.Ctl {
		out = append(out, fmt.Sprint("qubit ", q))
	}
	if op.Kind == api.Measure {
		out = append(out, fmt.Sprint("bit ", op.Bit))
	}
	for _, term := range op.If {
		if term < 0 {
			term = -term
		}
		out = append(out, fmt.Sprint("bit ", term-1))
	}
	return out
}

// duration is how long an operation lasts.
func duration(op api.Op, times api.Times) int {
	switch {
	case op.Kind == api.X && len(op.Ctl) == 1:
		return times.Two
	case op.Kind == api.X || op.Kind == api.H:
		return times.One
	case op.Kind == api.P || op.Kind == api.Phase:
		return times.Turn
	}
	return times.Look
}

// beginnings are what Schedule is to answer, by all pairs of operations.
func beginnings(c api.Circuit, times api.Times) (begins []int, end int) {
	var touched [][]string
	for i, op := range c.Ops {
		own := things(op)
		begin := 0
		for j := range i {
			meet := slices.ContainsFunc(touched[j], func(thing string) bool { return slices.Contains(own, thing) })
			if over := begins[j] + duration(c.Ops[j], times); meet && over > begin {
				begin = over
			}
		}
		touched = append(touched, own)
		begins = append(begins, begin)
		end = max(end, begin+duration(op, times))
	}
	return begins, end
}

// scheduled is Schedule's answer where nothing is refused, held to the document's words.
func scheduled(t *testing.T, c api.Circuit, times api.Times) ([]int, int) {
	t.Helper()
	begins, end, f := route.Schedule(c, times)
	wantBegins, wantEnd := beginnings(c, times)
	if f != none || !slices.Equal(begins, wantBegins) || end != wantEnd {
		t.Errorf("Schedule of %s by %v: %s, %d, %v, want %s, %d", short(c), times, short(begins), end, f, short(wantBegins), wantEnd)
	}
	return begins, end
}
