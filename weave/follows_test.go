package weave_test

import (
	"fmt"
	"strings"
	"testing"

	"qloom/api"
	"qloom/tongue"
	"qloom/weave"
)

func TestAGateWithItsInvDoesNothing(t *testing.T) {
	nothing := circuit(t, "qubits 3 bits 0")
	for _, application := range []string{"x q[0];", "y q[0];", "z q[0];", "h q[0];", "s q[0];", "t q[0];", "p(3) q[0];", "phase(5);", "swap q[0], q[2];", "ctrl @ y q[1], q[0];", "pow(3) @ t q[0];", "ctrl @ ctrl @ h q[1], q[2], q[0];", "pow(-2) @ ctrl @ phase(1) q[0];"} {
		alike(t, application, woven(t, "qubit q[3]; "+application+" inv @ "+application), nothing)
		alike(t, application, woven(t, "qubit q[3]; inv @ "+application+" "+application), nothing)
	}
	a := author{noise: 9}
	tried := 0
	for i := range 400 {
		v := view{numbers: []string{"k", "n"}, ones: []string{"a", "b"}, rows: []row{{"c", 1}}, deep: 1}
		for _, name := range []string{"x", "y", "h", "t", "inner"} {
			v.gates = append(v.gates, signature{name: name, wires: []bool{false}})
		}
		v.gates = append(v.gates, signature{name: "p", numbers: 1, wires: []bool{false}}, signature{name: "phase", numbers: 1}, signature{name: "swap", wires: []bool{false, false}})
		a.room = 3 + i%20
		text := fmt.Sprintf("qubit q[3]; const k = 3; gate inner a { h a; s a; } gate g(n) a, b, c[] { %s } ", a.statements(v))
		apply := fmt.Sprintf("g(%d) q[%d], q[%d], q[%d .. %d];", i%7, i%3, (i+1)%3, (i+2)%3, (i+2)%3+1)
		for _, program := range []string{text + apply + " inv @ " + apply, text + "inv @ " + apply + " pow(2) @ " + apply + " inv @ " + apply} {
			c, f := weave.Expand(parsed(t, program))
			if f == none {
				tried++
				alike(t, program, c, nothing)
			}
		}
	}
	if tried < 400 {
		t.Errorf("only %d programs were without a fault", tried)
	}
}

// densest are statements of which each step is worth as many operations as can be.
var densest = []string{
	"pow(1499) @ y q[0];", "pow(-1499) @ swap q[0], q[1];", "pow(1499) @ x q[0];", "pow(1499) @ h q[0];", "pow(1499) @ t q[0];", "pow(1499) @ p(3) q[0];", "pow(1499) @ phase(5);", "ctrl @ pow(1499) @ y q[1], q[0];",
	"for i in 0 .. 499 { y q[0]; }", "for i in 0 .. 499 { swap q[0], q[1]; }", "for i in 0 .. 499 { ctrl @ swap q[2], q[0], q[1]; }", "within { for i in 0 .. 166 { y q[0]; } } apply { for i in 0 .. 166 { y q[1]; } }",
	"pow(499) @ wide q[0], q[1], q[2];", "pow(-499) @ wide q[0], q[1], q[2];", "pow(30) @ wider q[0], q[1], q[2];", "inv @ pow(30) @ wider q[0], q[1], q[2];", "for i in 0 .. 5 { q[7] ^= q[0] | q[1] | q[2] | q[3] | q[4] | q[5] | q[6]; }", "for i in 0 .. 149 { measure q -> b[1 .. 9]; }", "for i in 0 .. 149 { reset q; }",
	"pow(35) @ within_ q[0], q[1], q[2];",
}

// What a program of not too many steps does is a circuit that is not too long.
func TestCircuitsAreNotTooLong(t *testing.T) {
	head := "qubit q[8]; bit b[12]; gate wide a, b, c { swap a, b; } gate wider a, b, c { pow(3) @ swap a, b; y c; y b; ctrl @ y a, b; inv @ wide a, b, c; pow(5) @ wide b, c, a; } gate within_ a, b, c { within { y a; y b; y c; } apply { swap a, b; y c; swap b, c; } } "
	for _, text := range densest {
		c := woven(t, head+text)
		equal(t, text, len(c.Ops) <= api.MaxOps, true)
	}
	// As many as a text has room for, in a row.
	for _, statement := range []string{"y q[0];", "swap q[0], q[1];", "ctrl @ y q[1], q[0];", "inv @ swap q[1], q[2];"} {
		woven(t, head+strings.Repeat(statement, api.MaxSteps/2))
		refusedAt(t, head+strings.Repeat(statement, api.MaxSteps/2+1), api.ErrSteps, len(head)+len(statement)*(api.MaxSteps/2))
	}
}

// What is done often does what it does, done so often.
func TestGreatPowers(t *testing.T) {
	for _, gate := range []string{"x q[0];", "y q[0];", "h q[0];", "swap q[0], q[1];", "ctrl @ y q[1], q[0];"} {
		same(t, "qubit q[2]; pow(1499) @ "+gate, "qubit q[2]; "+gate)
		same(t, "qubit q[2]; pow(-1498) @ "+gate, "qubit q[2];")
		same(t, "qubit q[2]; inv @ pow(-7) @ pow(-13) @ pow(11) @ "+gate, "qubit q[2]; "+gate)
	}
	for turn, gate := range map[int]string{8: "z", 4: "s", 2: "t", 5: "p(5)", 11: "p(-5)", 0: "p(16)"} {
		for _, times := range []int{1499, -1499, 1498, -1496, 1, 0, 17} {
			does(t, fmt.Sprintf("qubit q[2]; pow(%d) @ %s q[1];", times, gate), "qubits 2 bits 0", fmt.Sprintf("p %d 1", ((turn*times)%16+16)%16))
			does(t, fmt.Sprintf("qubit q[2]; pow(%d) @ phase(%d);", times, turn), "qubits 2 bits 0", fmt.Sprintf("phase %d", ((turn*times)%16+16)%16))
			does(t, fmt.Sprintf("qubit q[2]; ctrl @ pow(%d) @ phase(%d) q[0];", times, turn), "qubits 2 bits 0", fmt.Sprintf("p %d 0", ((turn*times)%16+16)%16))
		}
	}
	same(t, "qubit q[2]; gate g a { pow(7) @ y a; t a; } pow(100) @ g q[0];", "qubit q[2]; gate g a { y a; t a; } for i in 0 .. 100 { g q[0]; }")
}

// A program means the same, however it is laid out.
func TestProgramsMeanTheSameAsTheyArePrinted(t *testing.T) {
	a := author{noise: 31}
	for i := range 100 {
		text := a.program(5 + i%30)
		program := parsed(t, text)
		c, f := weave.Expand(program)
		other, g := weave.Expand(parsed(t, tongue.Print(program)))
		equal(t, text, other, c)
		equal(t, text, g.Code, f.Code)
	}
}
