package loom_test

import (
	"fmt"
	"strings"
	"testing"

	"qloom/api"
	"qloom/state"
	"qloom/tongue"
)

func TestTheExamplesOfSame(t *testing.T) {
	compared(t, "qubit q[1]; h q[0]; x q[0]; h q[0];", "qubit q[1]; z q[0];", true)
	compared(t, "qubit q[1]; s q[0];", "qubit q[1]; t q[0];", false)
	compared(t, "qubit q[2]; gate twin a, b { h a; ctrl @ x a, b; } twin q[0], q[1];", pair, true)
	compared(t, "qubit q[2]; gate twin a, b { h a; ctrl @ x a, b; } twin q[0], q[1]; inv @ twin q[0], q[1];", "qubit q[2];", true)
}

// alike are pairs of programs that do the same.
var alike = [][2]string{
	{"qubit q[1]; y q[0];", "qubit q[1]; z q[0]; x q[0]; phase(4);"},
	{"qubit q[1]; t q[0]; t q[0];", "qubit q[1]; s q[0];"},
	{"qubit q[1]; p(1) q[0]; x q[0]; p(1) q[0]; x q[0];", "qubit q[1]; phase(1);"},
	{"qubit q[2]; swap q[0], q[1];", "qubit a[1]; qubit b[1]; ctrl @ x a[0], b[0]; ctrl @ x b[0], a[0]; ctrl @ x a[0], b[0];"},
	{"qubit q[2]; h q[1]; ctrl @ x q[0], q[1]; h q[1];", "qubit q[2]; ctrl @ z q[1], q[0];"},
	{"qubit q[3]; q[2] ^= q[0] | q[1];", "qubit q[3]; x q[0]; x q[1]; ctrl @ ctrl @ x q[0], q[1], q[2]; x q[0]; x q[1]; x q[2];"},
	{"qubit q[1]; bit b[3]; h q[0];", "bit c[1]; qubit q[1]; h q[0];"},
	{"qubit q[1]; bit b[1]; if b[0] { }", "qubit q[1];"},
	{"qubit q[6];", "qubit q[6]; pow(16) @ p(3) q[5];"},
	{"qubit q[2]; gate g a, b { h a; t b; ctrl @ s a, b; } pow(-3) @ g q[0], q[1];", "qubit q[2]; gate g a, b { ctrl @ p(12) b, a; p(14) b; h a; } for i in 0 .. 3 { g q[0], q[1]; }"},
}

// unlike are pairs of programs that don't, be it in one amplitude alone.
var unlike = [][2]string{
	{"qubit q[1];", "qubit q[1]; phase(8);"},
	{"qubit q[1];", "qubit q[1]; phase(1);"},
	{"qubit q[1]; y q[0];", "qubit q[1]; z q[0]; x q[0];"},
	{"qubit q[1]; h q[0];", "qubit q[1]; h q[0]; h q[0];"},
	{"qubit q[2]; x q[0];", "qubit q[2]; x q[1];"},
	{"qubit q[2]; ctrl @ x q[0], q[1];", "qubit q[2]; ctrl @ x q[1], q[0];"},
	{"qubit q[6];", "qubit q[6]; ctrl @ ctrl @ ctrl @ ctrl @ ctrl @ p(1) q[0], q[1], q[2], q[3], q[4], q[5];"},
	{"qubit q[6];", "qubit q[6]; within { for i in 0 .. 6 { x q[i]; } } apply { ctrl @ ctrl @ ctrl @ ctrl @ ctrl @ p(1) q[0], q[1], q[2], q[3], q[4], q[5]; }"},
	{"qubit q[6];", "qubit q[6]; q[0] ^= q[1] & !q[2] & q[3] & !q[4] & q[5];"},
}

func TestSame(t *testing.T) {
	for _, both := range alike {
		compared(t, both[0], both[1], true)
	}
	for _, both := range unlike {
		compared(t, both[0], both[1], false)
		compared(t, both[0], both[0], true)
		compared(t, both[1], both[1], true)
	}
}

// leaveTheSame: do two programs leave the same, from each basis state?
func leaveTheSame(t *testing.T, a, b string) bool {
	t.Helper()
	first, second := woven(t, a), woven(t, b)
	for in := range 1 << first.Qubits {
		one, _ := state.Run(first, in, nil)
		other, _ := state.Run(second, in, nil)
		if fmt.Sprint(one.Amps) != fmt.Sprint(other.Amps) {
			return false
		}
	}
	return true
}

// Programs without order are held against themselves, changed here and there: a
// statement more or less, two of them in the other order, a gate and what undoes it.
func TestSameOfProgramsWithoutOrder(t *testing.T) {
	t.Parallel()
	a := author{noise: 3}
	same := 0
	for i := range 600 {
		a.qubits, a.wide = 1+i%4, 100
		var list []string
		for range 1 + i%9 {
			list = append(list, a.statement(nil, false))
		}
		at := a.below(len(list))
		begin, end := strings.Join(list[:at], " "), strings.Join(list[at+1:], " ")
		one, gate := a.statement(nil, false), a.plain()
		text := head(a.qubits, 0) + begin + list[at] + one + end
		for _, other := range []string{
			begin + one + list[at] + end,
			begin + list[at] + end,
			begin + gate + one + end,
			begin + list[at] + gate + undone(gate) + one + end,
		} {
			other = head(a.qubits, 0) + other
			want := leaveTheSame(t, text, other)
			compared(t, text, other, want)
			if want {
				same++
			}
		}
	}
	if same < 800 || same > 1800 {
		t.Errorf("%d pairs do the same", same)
	}
}

// undone is an application that undoes another.
func undone(gate string) string {
	if strings.Contains(gate, "^=") {
		return gate
	}
	return "inv @ " + gate
}

// A program does the same, however it is written.
func TestSameOfPrintedPrograms(t *testing.T) {
	a := author{noise: 12}
	for i := range 60 {
		a.qubits, a.wide = 1+i%5, 100
		text := a.program(i % 20)
		tree, f := tongue.Parse(text)
		equal(t, text, f, none)
		compared(t, text, tongue.Print(tree), true)
	}
}

func TestFaultsOfSame(t *testing.T) {
	const good = "qubit q[2]; h q[0];"
	for _, bad := range []struct {
		text string
		want api.Fault
	}{
		{"qubit q[2]; x 1;", fault(api.ErrText, 14)},
		{strings.Repeat(" ", api.MaxLines+1), fault(api.ErrLong, 0)},
		{"", fault(api.ErrQubits, 0)},
		{"qubit q[2]; x q;", fault(api.ErrType, 14)},
		{"qubit q[2]; bit b[1]; measure q[0] -> b;", fault(api.ErrUnitary, 0)},
		{"qubit q[2]; reset q[1];", fault(api.ErrUnitary, 0)},
		{"qubit q[2]; bit b[1]; if b[0] { x q[0]; }", fault(api.ErrUnitary, 0)},
		{"qubit q[2]; bit b[1]; if !b[0] { h q[0]; }", fault(api.ErrUnitary, 0)},
		{"qubit q[3]; h q[0];", fault(api.ErrShape, 0)},
		{"qubit q[1]; h q[0];", fault(api.ErrShape, 0)},
		{"qubit q[8];", fault(api.ErrShape, 0)},
	} {
		uncompared(t, bad.text, good, bad.want)
		uncompared(t, good, bad.text, bad.want)
		if bad.want.Code != api.ErrShape {
			uncompared(t, bad.text, bad.text, bad.want)
		}
	}
	for _, qubits := range []string{"7", "8"} {
		text := "qubit q[" + qubits + "];"
		uncompared(t, text, text, fault(api.ErrMany, 0))
	}
}

// Of several faults the first is told: those of the first program, of the second one, of both.
func TestTheFirstFaultOfSame(t *testing.T) {
	const (
		noText   = "qubit q[9]; x 1;"
		noName   = "qubit q[2]; x r[0];"
		noGates  = "qubit q[8]; reset q;"
		few      = "qubit q[1];"
		many     = "qubit q[7];"
		tooMany  = "qubit q[8];"
		fewReset = "qubit q[1]; reset q;"
	)
	uncompared(t, noText, noName, fault(api.ErrText, 14))
	uncompared(t, noName, noText, fault(api.ErrName, 14))
	uncompared(t, noGates, noText, fault(api.ErrText, 14))
	uncompared(t, noGates, noName, fault(api.ErrName, 14))
	uncompared(t, noName, noGates, fault(api.ErrName, 14))
	uncompared(t, noGates, few, fault(api.ErrUnitary, 0))
	uncompared(t, few, noGates, fault(api.ErrUnitary, 0))
	uncompared(t, noGates, noGates, fault(api.ErrUnitary, 0))
	uncompared(t, tooMany, fewReset, fault(api.ErrUnitary, 0))
	uncompared(t, many, tooMany, fault(api.ErrShape, 0))
	uncompared(t, few, many, fault(api.ErrShape, 0))
}
