package loom_test

import (
	"fmt"
	"math"
	"slices"
	"testing"

	"qloom/api"
	"qloom/loom"
	"qloom/mach"
	"qloom/state"
	"qloom/tongue"
	"qloom/weave"
)

// none is the fault of a call that has none.
var none = api.Fault{}

func fault(code, at int) api.Fault { return api.Fault{Code: code, At: at} }

// equal holds two things against each other as they are told: a list without
// elements is the same, be it nil or empty.
func equal(t *testing.T, what string, got, want any) {
	t.Helper()
	if g, w := fmt.Sprintf("%+v", got), fmt.Sprintf("%+v", want); g != w {
		t.Errorf("%s: %s, want %s", short(what), short(g), short(w))
	}
}

// short is what is told of a thing that may be long.
func short(thing any) string {
	s := fmt.Sprint(thing)
	return fmt.Sprintf("%q", s[:min(len(s), 900)])
}

// built is an image, and where qubits stand at its start and its end.
type built struct {
	image string
	start []int
	end   []int
}

// build is Build's answer where nothing is refused.
func build(t *testing.T, text string, d api.Device) built {
	t.Helper()
	image, start, end, f := loom.Build(text, d)
	if f != none {
		t.Fatalf("Build of %s on %s: %v", short(text), short(d), f)
	}
	return built{image, start, end}
}

// unbuilt holds Build to a fault, beside which nothing is answered.
func unbuilt(t *testing.T, what, text string, d api.Device, want api.Fault) {
	t.Helper()
	image, start, end, f := loom.Build(text, d)
	if f != want || image != "" || len(start)+len(end) > 0 {
		t.Errorf("%s: Build of %s on %s: %s, %v, %v, %v, want %v", what, short(text), short(d), short(image), start, end, f, want)
	}
}

// compared holds Same to its answer, whichever of the two comes first.
func compared(t *testing.T, a, b string, want bool) {
	t.Helper()
	for range 2 {
		if yes, f := loom.Same(a, b); yes != want || f != none {
			t.Errorf("Same of %s and %s: %v, %v, want %v", short(a), short(b), yes, f, want)
		}
		a, b = b, a
	}
}

// uncompared holds Same to a fault, beside which nothing is answered.
func uncompared(t *testing.T, a, b string, want api.Fault) {
	t.Helper()
	if yes, f := loom.Same(a, b); yes || f != want {
		t.Errorf("Same of %s and %s: %v, %v, want %v", short(a), short(b), yes, f, want)
	}
}

// lib is Lib's answer where nothing is refused.
func lib(t *testing.T, name string, n int) string {
	t.Helper()
	text, f := loom.Lib(name, n)
	if f != none {
		t.Fatalf("Lib of %q and %d: %v", name, n, f)
	}
	return text
}

// woven is the circuit of a program without a fault: what the program means.
func woven(t *testing.T, text string) api.Circuit {
	t.Helper()
	tree, f := tongue.Parse(text)
	if f != none {
		t.Fatalf("Parse of %s: %v", short(text), f)
	}
	c, f := weave.Expand(tree)
	if f != none {
		t.Fatalf("Expand of %s: %v", short(text), f)
	}
	return c
}

// mostTapes is how many tapes of one run are tried.
const mostTapes = 100

// runs ranges over the tapes of a run, from the empty one on: those behind which it
// asks for more, each ahead of those that begin with it, and those with which it ends.
func runs(run func(tape []int) (asks bool)) {
	tapes := [][]int{nil}
	for tried := 0; len(tapes) > 0 && tried < mostTapes; tried++ {
		tape := tapes[0]
		tapes = tapes[1:]
		if run(tape) {
			tapes = append(tapes, append(slices.Clone(tape), 0), append(slices.Clone(tape), 1))
		}
	}
}

// stood is a basis state in which qubits stand at places as x tells, and all others are 0.
func stood(x int, places []int) int {
	out := 0
	for q, place := range places {
		out |= x >> q & 1 << place
	}
	return out
}

// moved are the amplitudes of so many qubits, of which the first ones stand at places.
// All others are 0.
func moved(amps []string, places []int, qubits int) []string {
	out := slices.Repeat([]string{"0"}, 1<<qubits)
	for x, a := range amps {
		out[stood(x, places)] = a
	}
	return out
}

// means holds an image to what its program means, from every basis state and with
// every tape.
func means(t *testing.T, text string, d api.Device, b built) {
	t.Helper()
	c := woven(t, text)
	if !areUnlike(b.start, d.N) || !areUnlike(b.end, d.N) || len(b.start) != len(b.end) || len(b.start) < c.Qubits {
		t.Fatalf("%s on %s: from %v to %v", short(text), short(d), b.start, b.end)
	}
	for in := range 1 << c.Qubits {
		runs(func(tape []int) bool {
			what := fmt.Sprintf("%s on %v from %d with %v", text, d, in, tape)
			want, f := state.Run(c, in, tape)
			got, g := mach.Run(b.image, stood(in, b.start), tape, api.MaxFuel)
			equal(t, what, g.Code, f.Code)
			if f == none && g == none {
				equal(t, what, got.Shot.Amps, moved(want.Amps, b.end[:c.Qubits], d.N))
				equal(t, what, got.Shot.Bits, want.Bits)
				equal(t, what, got.Shot.Used, want.Used)
			}
			return f.Code == api.ErrTape
		})
	}
}

// areUnlike: are these unlike numbers from 0 to bound - 1?
func areUnlike(list []int, bound int) bool {
	for i, n := range list {
		if n < 0 || n >= bound || slices.Contains(list[:i], n) {
			return false
		}
	}
	return true
}

// row is a device whose qubits stand in a row.
func row(n int) api.Device {
	d := api.Device{N: n}
	for q := range n - 1 {
		d.Links = append(d.Links, [2]int{q, q + 1})
	}
	return d
}

// star is a device of which one qubit is linked to all others.
func star(n, middle int) api.Device {
	d := api.Device{N: n}
	for q := range n {
		if q != middle {
			d.Links = append(d.Links, [2]int{q, middle})
		}
	}
	return d
}

// devices are some of so many qubits.
func devices(n int) []api.Device {
	mix := noise(n)
	return []api.Device{row(n), star(n, n-1), mix.device(n), mix.device(n)}
}

// noise is a row of numbers that looks without order, and is the same each time.
type noise uint64

func (n *noise) below(bound int) int {
	*n = *n*6364136223846793005 + 1442695040888963407
	return int(uint64(*n)>>33) % bound
}

// pick is one of some texts.
func (n *noise) pick(texts ...string) string { return texts[n.below(len(texts))] }

// order is 0 to length - 1, without order.
func (n *noise) order(length int) []int {
	out := make([]int, length)
	for i := range out {
		j := n.below(i + 1)
		out[i], out[j] = out[j], i
	}
	return out
}

// device is one in one part, without a link that it does not need for that.
func (n *noise) device(qubits int) api.Device {
	d := api.Device{N: qubits}
	names := n.order(qubits)
	for q := 1; q < qubits; q++ {
		d.Links = append(d.Links, [2]int{names[q], names[n.below(q)]})
	}
	return d
}

// odd is a number that is hardly ever right.
func (n *noise) odd() int {
	return []int{math.MinInt64, math.MinInt64 + 1, -1 << 32, -13, -1, 0, 1, 2, 3, 4, 7, 11, 12, 13, 16, 1 << 32, math.MaxInt64}[n.below(17)]
}
