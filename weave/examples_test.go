package weave_test

import (
	"testing"

	"qloom/api"
	"qloom/state"
)

func TestExamplesOfTheDocument(t *testing.T) {
	twin := "qubit q[2]; gate twin a, b { h a; ctrl @ x a, b; } twin q[0], q[1];"
	shot, f := state.Run(woven(t, twin), 0, nil)
	equal(t, twin, f, none)
	equal(t, twin, shot.Amps, []string{"0,0,1,0,0,0,-1/1", "0", "0", "0,0,1,0,0,0,-1/1"})
	does(t, twin, "qubits 2 bits 0", "h 0", "x 1 on 0")
	does(t, twin+" inv @ twin q[0], q[1];", "qubits 2 bits 0")
	refusedAt(t, "qubit q[1]; x q;", api.ErrType, 14)
	refused(t, "qubit q[1]; bit b[1]; if b[0] { measure q -> $b; }", api.ErrBit)
	refusedAt(t, "x q[0];", api.ErrName, 2)
}

// Registers, qubits and bits are numbered in the order in which they are laid down.
func TestQubitsAndBitsAreNumbered(t *testing.T) {
	does(t, "qubit a[1];", "qubits 1 bits 0")
	does(t, "qubit a[1]; bit b[1];", "qubits 1 bits 1")
	does(t, "bit c[2]; qubit a[2]; bit d[1]; qubit b[1]; x a[1]; measure b[0] -> d[0]; z b[0]; measure a -> c;",
		"qubits 3 bits 3", "x 1", "measure 2 to 2", "p 8 2", "measure 0 to 0", "measure 1 to 1")
	does(t, "qubit a[1]; x a[0]; h a[0]; qubit b[2]; ctrl @ x b[1], a[0];", "qubits 3 bits 0", "x 0", "h 0", "x 0 on 2")
}

func TestProgramsWithoutAQubit(t *testing.T) {
	for _, text := range []string{"", "bit b[1];", "const a = 1;", "gate g a { nobody; }", "phase(1);", "bit b[12]; if b[0] { } else { phase(3); }", "for i in 0 .. 9 { when i { } }", "within { } apply { }", "// nothing"} {
		refusedAt(t, text, api.ErrQubits, 0)
	}
	refused(t, "bit b[1]; x $b[0];", api.ErrType)
	refused(t, "const a = 1; $const a = 2;", api.ErrTwice)
	refused(t, "gate g a { } g $a;", api.ErrName)
}

func TestProgramsOfAllQubitsAndBits(t *testing.T) {
	c := woven(t, "qubit q[8]; bit b[12]; x q[7]; measure q -> b[4 .. 12];")
	equal(t, "qubits", c.Qubits, api.MaxWires)
	equal(t, "bits", c.Bits, api.MaxBits)
	shot, f := state.Run(c, 5, []int{1, 0, 1, 0, 0, 0, 0, 1})
	equal(t, "fault", f, none)
	equal(t, "amplitude", shot.Amps[128+5], "1")
	equal(t, "bits", shot.Bits, []int{0, 0, 0, 0, 1, 0, 1, 0, 0, 0, 0, 1})
	does(t, "qubit a[3]; bit c[5]; qubit b[5]; bit d[7]; swap a[2], b[4];", "qubits 8 bits 12", "x 2 on 7", "x 7 on 2", "x 2 on 7")
}
