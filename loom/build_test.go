package loom_test

import (
	"fmt"
	"strings"
	"testing"

	"qloom/api"
	"qloom/loom"
	"qloom/lower"
	"qloom/mach"
	"qloom/route"
)

// pair is the program of the document's first example.
const pair = "qubit q[2]; h q[0]; ctrl @ x q[0], q[1];"

func TestTheExampleOfBuild(t *testing.T) {
	b := build(t, pair, row(2))
	equal(t, "places", []int{len(b.start), len(b.end)}, []int{2, 2})
	r, f := mach.Run(b.image, 0, nil, 100)
	equal(t, "fault", f, none)
	equal(t, "amplitudes", r.Shot.Amps, []string{"0,0,1,0,0,0,-1/1", "0", "0", "0,0,1,0,0,0,-1/1"})
	means(t, pair, row(2), b)
}

// chained is what the calls of the chain answer, one after the other.
func chained(t *testing.T, text string, d api.Device) (built, api.Fault) {
	t.Helper()
	basic, f := lower.Base(woven(t, text))
	if f != none {
		return built{}, f
	}
	there, f := route.Fit(basic, d)
	if f != none {
		return built{}, f
	}
	image, f := mach.Emit(there.Circuit)
	if f != none {
		return built{}, f
	}
	return built{image, there.Start, there.End}, none
}

// Build does what the calls of the chain do, as this program does it.
func TestBuildIsTheChain(t *testing.T) {
	a := author{noise: 1}
	refused := 0
	for i := range 400 {
		a.qubits, a.bits, a.wide = 1+i%5, i%4, i%24
		text := a.program(3 + i%24)
		d := a.device(1 + a.below(api.MaxQubits))
		want, wf := chained(t, text, d)
		image, start, end, f := loom.Build(text, d)
		equal(t, text, built{image, start, end}, want)
		equal(t, text, f, wf)
		if f != none {
			refused++
		}
	}
	if refused < 50 || refused > 200 {
		t.Errorf("%d programs were refused", refused)
	}
}

// wires are programs of which each has something that a part of the chain must do.
var wires = []string{
	"qubit q[1];",
	"qubit q[1]; bit b[2];",
	"qubit a[1]; bit c[2]; qubit b[2]; bit d[1]; x b[1]; measure a -> d; measure b[0 .. 2] -> c;",
	"qubit q[2]; swap q[0], q[1]; h q[0]; swap q[0], q[1];",
	"qubit q[3]; ctrl @ p(1) q[0], q[2];",
	"qubit q[2]; ctrl @ phase(1) q[1]; ctrl @ t q[0], q[1]; y q[0];",
	"qubit q[4]; ctrl @ ctrl @ ctrl @ x q[0], q[3], q[1], q[2];",
	"qubit q[4]; ctrl @ x q[0], q[3]; ctrl @ x q[3], q[1]; ctrl @ h q[2], q[0];",
	"qubit q[3]; h q[0]; q[2] ^= q[0] | !q[1];",
	"qubit q[2]; bit b[2]; h q[0]; measure q[0] -> b[0]; if b[0] { x q[1]; reset q[0]; } else { measure q[1] -> b[1]; if !b[1] { h q[0]; } }",
	"qubit q[3]; bit b[1]; h q[0]; measure q[0 .. 1] -> b; if b[0] { ctrl @ x q[0], q[2]; ctrl @ ctrl @ x q[0], q[2], q[1]; }",
	"qubit q[2]; gate twin a, b { h a; ctrl @ x a, b; } twin q[0], q[1]; inv @ twin q[0], q[1];",
	"qubit q[2]; const k = 5; for i in 0 .. 2 { when i == 1 { p(k) q[i]; } h q[i]; } phase(3);",
	"qubit q[5]; ctrl @ x q[4], q[0]; ctrl @ x q[0], q[4]; within { h q[2]; } apply { ctrl @ z q[2], q[4]; }",
}

func TestImagesDoWhatProgramsMean(t *testing.T) {
	for _, text := range wires {
		basic, f := lower.Base(woven(t, text))
		equal(t, text, f, none)
		for more := range 3 {
			for _, d := range devices(basic.Qubits + more) {
				b := build(t, text, d)
				equal(t, text, len(b.start), basic.Qubits)
				means(t, text, d, b)
			}
		}
	}
}

func TestImagesOfProgramsWithoutOrder(t *testing.T) {
	t.Parallel()
	a := author{noise: 7}
	for i := range 250 {
		a.qubits, a.bits, a.wide = 1+i%4, i%3, 4
		text := a.program(2 + i%12)
		d := a.device(7 + i%2)
		means(t, text, d, build(t, text, d))
	}
}

// nested is statements where so many bits are 1.
func nested(bits int, statements string) string {
	var out strings.Builder
	for i := range bits {
		fmt.Fprintf(&out, "if b[%d] { ", i)
	}
	return out.String() + statements + strings.Repeat(" }", bits)
}

// repeated is a statement in a row.
func repeated(times int, statement string) string { return strings.Repeat(statement+" ", times) }

// Each part of the chain refuses what it refuses, beside which nothing is answered.
func TestFaultsOfBuild(t *testing.T) {
	d := row(3)
	unbuilt(t, "Parse", "qubit q[2]; x 1;", d, fault(api.ErrText, 14))
	unbuilt(t, "Parse", "qubit q[2]", d, fault(api.ErrText, 10))
	unbuilt(t, "Parse", strings.Repeat(" ", api.MaxLines+1), d, fault(api.ErrLong, 0))
	unbuilt(t, "Expand", "", d, fault(api.ErrQubits, 0))
	unbuilt(t, "Expand", "qubit q[2]; x q;", d, fault(api.ErrType, 14))
	unbuilt(t, "Expand", "x q[0];", d, fault(api.ErrName, 2))
	unbuilt(t, "Expand", "qubit q[9];", row(12), fault(api.ErrQubits, 0))
	unbuilt(t, "Expand", "qubit q[1]; for i in 0 .. 750 { x q[0]; }", d, fault(api.ErrSteps, 32))
	unbuilt(t, "Base", "qubit q[2]; "+repeated(19, "ctrl @ x q[0], q[1];"), d, fault(api.ErrMany, 0))
	unbuilt(t, "Base", "qubit q[8]; "+repeated(6, "ctrl @")+"t "+"q[0], q[1], q[2], q[3], q[4], q[5], q[6];", row(12), fault(api.ErrRoom, 0))
	unbuilt(t, "Fit", pair, api.Device{}, fault(api.ErrQubits, 0))
	unbuilt(t, "Fit", pair, api.Device{N: 13}, fault(api.ErrQubits, 0))
	unbuilt(t, "Fit", pair, api.Device{N: 2, Links: [][2]int{{0, 2}}}, fault(api.ErrQubit, 0))
	unbuilt(t, "Fit", pair, api.Device{N: 2, Links: [][2]int{{0, 1}, {1, 1}}}, fault(api.ErrClone, 1))
	unbuilt(t, "Fit", pair, api.Device{N: 3, Links: [][2]int{{0, 1}, {1, 2}, {1, 0}}}, fault(api.ErrTwice, 2))
	unbuilt(t, "Fit", pair, api.Device{N: 3, Links: [][2]int{{0, 1}}}, fault(api.ErrApart, 0))
	unbuilt(t, "Fit", "qubit q[4];", d, fault(api.ErrRoom, 0))
	unbuilt(t, "Fit, with spare qubits", "qubit q[3]; ctrl @ p(1) q[0], q[1];", d, fault(api.ErrRoom, 0))
	unbuilt(t, "Fit", "qubit q[6]; "+repeated(12, "ctrl @ ctrl @ ctrl @ ctrl @ x q[0], q[1], q[2], q[3], q[4];"), row(12), fault(api.ErrMany, 0))
	unbuilt(t, "Emit", "qubit q[1]; bit b[12]; "+nested(12, repeated(740, "y q[0];")), d, fault(api.ErrMany, 0))
	build(t, "qubit q[1]; bit b[12]; "+nested(11, repeated(500, "y q[0];")), d)
}

// Of several faults the first is told, in the order of the chain.
func TestTheFirstFaultOfBuild(t *testing.T) {
	none := api.Device{}
	many := repeated(19, "ctrl @ x q[0], q[1];")
	unbuilt(t, "Parse, Expand", "x q[0]; x 1;", none, fault(api.ErrText, 10))
	unbuilt(t, "Expand, Base, Fit", "qubit q[2]; "+many+"x r[0];", none, fault(api.ErrName, 14+len(many)))
	unbuilt(t, "Base, Fit", "qubit q[2]; "+many, none, fault(api.ErrMany, 0))
	unbuilt(t, "Fit, Emit", "qubit q[1]; bit b[12]; "+nested(12, repeated(740, "y q[0];")), none, fault(api.ErrQubits, 0))
}

// Spare qubits stand behind the program's own, and are 0 again at the end.
func TestSpareQubits(t *testing.T) {
	const text = "qubit q[2]; h q[0]; h q[1]; ctrl @ p(1) q[0], q[1];"
	for _, n := range []int{3, 4, 5} {
		for _, d := range devices(n) {
			b := build(t, text, d)
			equal(t, "places", []int{len(b.start), len(b.end)}, []int{3, 3})
			means(t, text, d, b)
		}
	}
}

// An image has the device's qubits and the program's bits, and no control that is
// not linked to its qubit.
func TestImagesAreOfTheirDevice(t *testing.T) {
	for _, text := range wires {
		for _, d := range devices(8) {
			listing, f := mach.Text(build(t, text, d).image)
			equal(t, text, f, none)
			lines := strings.Split(listing, "\n")
			equal(t, text, lines[0], fmt.Sprintf("qubits 8 bits %d", woven(t, text).Bits))
			for _, line := range lines {
				var a, b int
				if n, _ := fmt.Sscanf(line, "cx %d %d", &a, &b); n == 2 && !areLinked(d, a, b) {
					t.Errorf("%s on %v: %s", text, d, line)
				}
			}
		}
	}
}

func areLinked(d api.Device, a, b int) bool {
	for _, link := range d.Links {
		if link == [2]int{a, b} || link == [2]int{b, a} {
			return true
		}
	}
	return false
}

// As many instructions as a circuit's operations and conditions are enough.
func TestFuel(t *testing.T) {
	for _, text := range wires {
		basic, _ := lower.Base(woven(t, text))
		d := row(basic.Qubits)
		there, _ := route.Fit(basic, d)
		fuel := len(there.Circuit.Ops)
		for _, op := range there.Circuit.Ops {
			fuel += len(op.If)
		}
		r, f := mach.Run(build(t, text, d).image, 0, make([]int, 30), fuel)
		equal(t, text, f, none)
		equal(t, text, r.Steps <= fuel, true)
	}
}
