package weave_test

import (
	"fmt"
	"strconv"
	"strings"
	"testing"

	"qloom/api"
	"qloom/state"
)

func TestGatesOfTheStart(t *testing.T) {
	for _, c := range []struct {
		text  string
		lines []string
	}{
		{"x q[1];", []string{"x 1"}}, {"z q[1];", []string{"p 8 1"}}, {"h q[1];", []string{"h 1"}}, {"s q[1];", []string{"p 4 1"}}, {"t q[1];", []string{"p 2 1"}},
		{"y q[1];", []string{"p 8 1", "x 1", "phase 4"}}, {"swap q[0], q[2];", []string{"x 0 on 2", "x 2 on 0", "x 0 on 2"}}, {"swap q[2], q[0];", []string{"x 0 on 2", "x 2 on 0", "x 0 on 2"}},
	} {
		does(t, "qubit q[3]; "+c.text, append([]string{"qubits 3 bits 0"}, c.lines...)...)
	}
	for _, k := range []int{0, 1, 5, 15, 16, 17, 31, 32, -1, -15, -16, -17, 999999999, -999999999, api.MaxWhole, api.MaxWhole - 3, -api.MaxWhole, 5 - api.MaxWhole} {
		turn := strconv.Itoa((k%16 + 16) % 16)
		does(t, "qubit q[2]; p("+written(k)+") q[1];", "qubits 2 bits 0", "p "+turn+" 1")
		does(t, "qubit q[2]; phase("+written(k)+");", "qubits 2 bits 0", "phase "+turn)
		does(t, "qubit q[2]; ctrl @ phase("+written(k)+") q[1];", "qubits 2 bits 0", "p "+turn+" 1")
	}
}

// What Y does is written out: 0 becomes i times 1, 1 becomes -i times 0.
func TestY(t *testing.T) {
	c := woven(t, "qubit q[1]; y q[0];")
	for in, want := range [][]string{{"0", "0,0,0,0,1"}, {"0,0,0,0,-1", "0"}} {
		shot, _ := state.Run(c, in, nil)
		equal(t, "y", shot.Amps, want)
	}
}

// Where a control is 0 nothing is done.
func TestControls(t *testing.T) {
	head := "qubits 4 bits 0"
	for _, c := range []struct {
		text  string
		lines []string
	}{
		{"ctrl @ x q[3], q[1];", []string{"x 1 on 3"}}, {"ctrl @ ctrl @ x q[3], q[0], q[1];", []string{"x 1 on 3 0"}}, {"ctrl @ ctrl @ ctrl @ x q[3], q[0], q[1], q[2];", []string{"x 2 on 3 0 1"}},
		{"ctrl @ h q[0], q[1];", []string{"h 1 on 0"}}, {"ctrl @ z q[0], q[1];", []string{"p 8 1 on 0"}}, {"ctrl @ s q[0], q[1];", []string{"p 4 1 on 0"}}, {"ctrl @ t q[0], q[1];", []string{"p 2 1 on 0"}},
		{"ctrl @ y q[0], q[1];", []string{"p 8 1 on 0", "x 1 on 0", "p 4 0"}}, {"ctrl @ ctrl @ y q[0], q[2], q[1];", []string{"p 8 1 on 0 2", "x 1 on 0 2", "p 4 0 on 2"}},
		{"ctrl @ swap q[0], q[1], q[2];", []string{"x 1 on 2 0", "x 2 on 1 0", "x 1 on 2 0"}}, {"ctrl @ ctrl @ swap q[3], q[0], q[1], q[2];", []string{"x 1 on 2 0 3", "x 2 on 1 0 3", "x 1 on 2 0 3"}},
		{"ctrl @ p(3) q[0], q[1];", []string{"p 3 1 on 0"}}, {"ctrl @ phase(3) q[2];", []string{"p 3 2"}}, {"ctrl @ ctrl @ phase(3) q[2], q[0];", []string{"p 3 2 on 0"}}, {"ctrl @ ctrl @ ctrl @ phase(3) q[2], q[0], q[1];", []string{"p 3 2 on 0 1"}},
		{"gate g a, b { h a; phase(1); y b; swap a, b; b ^= !a; } ctrl @ g q[3], q[0], q[1];", []string{"h 0 on 3", "p 1 3", "p 8 1 on 3", "x 1 on 3", "p 4 3", "x 0 on 1 3", "x 1 on 0 3", "x 0 on 1 3", "x 1 on 3", "x 1 on 0 3"}},
		{"gate g a, b { ctrl @ h a, b; } ctrl @ g q[3], q[0], q[1];", []string{"h 1 on 0 3"}},
		{"gate g a, b { within { h a; phase(3); } apply { ctrl @ x a, b; t b; } } ctrl @ g q[3], q[0], q[1];", []string{"h 0 on 3", "x 1 on 0 3", "p 2 1 on 3", "h 0 on 3"}},
		{"gate g a { within { within { x a; } apply { t a; } } apply { phase(5); h a; } } ctrl @ ctrl @ g q[3], q[0], q[1];", []string{"x 1", "p 2 1", "x 1", "p 5 3 on 0", "h 1 on 0 3", "x 1", "p 14 1", "x 1"}},
		{"gate inner a, b { h a; ctrl @ phase(2) a; x b; } gate outer a, b, c { ctrl @ inner a, b, c; inner c, b; } ctrl @ outer q[0], q[1], q[2], q[3];", []string{"h 2 on 0 1", "p 2 2 on 0 1", "x 3 on 0 1", "h 3 on 0", "p 2 3 on 0", "x 2 on 0"}},
		{"gate all a[] { for i in 0 .. size(a) { h a[i]; } } ctrl @ all q[0], q[1 .. 4];", []string{"h 1 on 0", "h 2 on 0", "h 3 on 0"}},
	} {
		does(t, "qubit q[4]; "+c.text, append([]string{head}, c.lines...)...)
	}
	does(t, "qubit q[8]; "+strings.Repeat("ctrl @ ", 7)+"x q[0], q[1], q[2], q[3], q[4], q[5], q[6], q[7];", "qubits 8 bits 0", "x 7 on 0 1 2 3 4 5 6")
	does(t, "qubit q[8]; "+strings.Repeat("ctrl @ ", 8)+"phase(9) q[0], q[1], q[2], q[3], q[4], q[5], q[6], q[7];", "qubits 8 bits 0", "p 9 7 on 0 1 2 3 4 5 6")
	for _, name := range []string{"x", "h", "y", "t"} {
		for control := range 2 {
			c := woven(t, "qubit q[2]; ctrl @ "+name+" q[0], q[1];")
			plain := woven(t, "qubit q[2]; "+name+" q[1];")
			for _, in := range []int{control, control + 2} {
				got, _ := state.Run(c, in, nil)
				want, _ := state.Run(plain, in, nil)
				if control == 0 {
					want, _ = state.Run(api.Circuit{Qubits: 2}, in, nil)
				}
				equal(t, name, got.Amps, want.Amps)
			}
		}
	}
}

// power is a gate so often, written out.
func power(text string, times int) string {
	if times < 0 {
		return strings.Repeat("inv @ "+text, -times)
	}
	return strings.Repeat(text, times)
}

var someGates = "gate own a, b { t a; h a; ctrl @ y a, b; phase(3); swap a, b; } gate fork(k) a, b { h a; p(k) b; h b; b ^= a; } "

func TestPowers(t *testing.T) {
	for _, text := range []string{"x q[0];", "y q[0];", "z q[0];", "h q[0];", "s q[0];", "t q[0];", "p(3) q[0];", "p(-5) q[1];", "phase(5);", "swap q[0], q[1];", "own q[0], q[1];", "fork(3) q[1], q[0];"} {
		for _, times := range []int{0, 1, 2, 3, 4, 5, 7, 8, 9, -1, -2, -3, -4, -7, -8} {
			same(t, "qubit q[2]; "+someGates+fmt.Sprintf("pow(%d) @ ", times)+text, "qubit q[2]; "+someGates+power(text, times))
		}
	}
}

// mods are modifiers of an application, and how often it is done by them.
var mods = []struct {
	text  string
	times int
}{
	{"inv @ ", -1}, {"inv @ inv @ ", 1}, {"inv @ inv @ inv @ ", -1}, {"pow(2) @ inv @ ", -2}, {"inv @ pow(2) @ ", -2}, {"pow(2) @ pow(3) @ ", 6}, {"pow(-2) @ pow(-1) @ ", 2}, {"inv @ pow(-3) @ ", 3},
	{"pow(0) @ ", 0}, {"inv @ pow(0) @ ", 0}, {"pow(0) @ pow(5) @ ", 0}, {"pow(5) @ pow(0) @ inv @ ", 0}, {"pow(1) @ ", 1}, {"pow(-1) @ ", -1}, {"pow(1 + 2) @ inv @ pow(k - 3) @ ", 3}, {"pow(0) @ pow(2 ** 30) @ ", 0}, {"pow(2 ** 30) @ pow(0) @ ", 0},
}

func TestModsInEveryOrder(t *testing.T) {
	head := "qubit q[3]; const k = 2; " + someGates
	for _, m := range mods {
		for _, text := range []string{"t q[0];", "y q[0];", "own q[0], q[1];", "fork(5) q[1], q[0];"} {
			same(t, head+m.text+text, head+power(text, m.times))
		}
	}
	// It makes no difference where a ctrl stands.
	for _, order := range []string{"ctrl @ inv @ pow(3) @ ", "inv @ ctrl @ pow(3) @ ", "inv @ pow(3) @ ctrl @ ", "pow(3) @ inv @ ctrl @ ", "pow(3) @ ctrl @ inv @ ", "ctrl @ pow(3) @ inv @ "} {
		for _, text := range []string{"t q[2], q[0];", "own q[2], q[0], q[1];", "phase(3) q[1];"} {
			same(t, head+order+text, head+power("ctrl @ "+text, -3))
		}
	}
	same(t, head+"ctrl @ inv @ ctrl @ t q[2], q[1], q[0];", head+"p(0) q[0]; ctrl @ ctrl @ p(14) q[0], q[1], q[2];")
	same(t, head+"ctrl @ pow(2) @ ctrl @ inv @ phase(3) q[2], q[1];", head+"ctrl @ p(10) q[2], q[1];")
	// Within a gate that is itself undone, controlled and done often.
	inner := "gate inner a, b { inv @ own a, b; pow(2) @ fork(1) b, a; } gate outer a, b { pow(-2) @ inner a, b; t b; } "
	once := "inv @ fork(1) q[1], q[0]; inv @ fork(1) q[1], q[0]; own q[0], q[1]; "
	same(t, head+inner+"outer q[0], q[1];", head+once+once+"t q[1];")
	same(t, head+inner+"inv @ outer q[0], q[1]; outer q[0], q[1];", head)
	same(t, head+inner+"ctrl @ inv @ outer q[2], q[0], q[1]; ctrl @ outer q[2], q[0], q[1];", head)
}

func TestFaultsOfApplications(t *testing.T) {
	items := "qubit q[4]; bit b[2]; const k = 1; gate two(m, n) a, c[] { } gate none a { } "
	for _, c := range []struct {
		marked string
		code   int
	}{
		// The name, ahead of all else; the place is where the application begins.
		{"$nobody;", api.ErrName}, {"$nobody(1) q[0];", api.ErrName}, {"$inv @ nobody q[0];", api.ErrName}, {"$pow(1 / 0) @ nobody;", api.ErrName}, {"$ctrl @ nobody(nobody) nobody;", api.ErrName},
		{"$q q[0];", api.ErrType}, {"$b;", api.ErrType}, {"$k q[0];", api.ErrType}, {"$inv @ pow(1 / 0) @ k(nobody) nobody;", api.ErrType},
		// How often it is done.
		{"pow($nobody) @ x;", api.ErrName}, {"pow(1 $/ 0) @ x(1) nobody;", api.ErrZero}, {"inv @ pow($q) @ x q;", api.ErrType}, {"pow(2) @ $pow(2 ** 30) @ x;", api.ErrRange}, {"pow(2 ** 30) @ $pow(2) @ x;", api.ErrRange}, {"pow(2 ** 30) @ inv @ $pow(2) @ x;", api.ErrRange},
		{"pow(2 ** 30) @ $pow(-2) @ x;", api.ErrRange}, {"pow(-(2 ** 30)) @ ctrl @ $pow(2) @ pow(nobody) @ x(1);", api.ErrRange}, {"pow(32768) @ $pow(32769) @ x;", api.ErrRange}, {"pow(2 ** 30) @ pow(-1) @ $pow(3) @ pow(0) @ x;", api.ErrRange}, {"pow(2 ** 30) @ $pow(2 ** 30) @ x;", api.ErrRange},
		{"pow(2) @ pow(2 $** 31) @ x;", api.ErrRange}, {"pow(2 ** 30) @ pow(2 + $nobody) @ x;", api.ErrName},
		// How many numbers.
		{"$x(1) q[0];", api.ErrArgs}, {"$p q[0];", api.ErrArgs}, {"$p(1, 2) q[0];", api.ErrArgs}, {"$phase;", api.ErrArgs}, {"$two(1) q[0], q;", api.ErrArgs}, {"$two(1, 2, 3) q[0], q;", api.ErrArgs}, {"$two q[0], q;", api.ErrArgs}, {"$none(1) q[0];", api.ErrArgs},
		{"$x(nobody) nobody;", api.ErrArgs}, {"$two(1 / 0) q;", api.ErrArgs}, {"$inv @ swap(2) q[0];", api.ErrArgs}, {"$pow(2 ** 30) @ ctrl @ p nobody;", api.ErrArgs},
		// Their faults.
		{"p($nobody) nobody;", api.ErrName}, {"p(1 $/ 0);", api.ErrZero}, {"two($q, 1 / 0);", api.ErrType}, {"two(1, 1 $/ 0) nobody, nobody, nobody;", api.ErrZero}, {"phase(2 $** 31) q[0];", api.ErrRange},
		// How many references.
		{"$x;", api.ErrArgs}, {"$x q[0], q[1];", api.ErrArgs}, {"$phase(1) q[0];", api.ErrArgs}, {"$swap q[0];", api.ErrArgs}, {"$swap q[0], q[1], q[2];", api.ErrArgs}, {"$ctrl @ x q[0];", api.ErrArgs}, {"$ctrl @ ctrl @ x q[0], q[1];", api.ErrArgs}, {"$ctrl @ x q[0], q[1], q[2];", api.ErrArgs},
		{"$ctrl @ phase(1);", api.ErrArgs}, {"$two(1, 2) q[0];", api.ErrArgs}, {"$x nobody, q;", api.ErrArgs}, {"$swap nobody;", api.ErrArgs}, {"$inv @ ctrl @ pow(5) @ none q[0];", api.ErrArgs}, {"$x b, b;", api.ErrArgs},
		// Reference by reference.
		{"swap $nobody, b;", api.ErrName}, {"swap q[0], $nobody;", api.ErrName}, {"swap $b, nobody;", api.ErrType}, {"swap $q, nobody;", api.ErrType}, {"swap q[0], $q;", api.ErrType}, {"swap q[0], $q[0 .. 1];", api.ErrType}, {"ctrl @ x $q, q[0];", api.ErrType}, {"ctrl @ x $q[1 .. 2], nobody;", api.ErrType},
		{"ctrl @ two(1, 2) q[0], q[1], $q[2];", api.ErrType}, {"two(1, 2) $q, q;", api.ErrType}, {"ctrl @ two(1, 2) q[0], $q[1 .. 2], q[2 .. 3];", api.ErrType},
		{"swap q[0], $q[0];", api.ErrClone}, {"ctrl @ x q[0], $q[0];", api.ErrClone}, {"ctrl @ ctrl @ phase(1) q[3], $q[3];", api.ErrClone}, {"ctrl @ ctrl @ x q[1], $q[1], nobody;", api.ErrClone}, {"two(1, 2) q[0], $q;", api.ErrClone}, {"two(1, 2) q[3], $q;", api.ErrClone}, {"two(1, 2) q[1], $q[1 .. 3];", api.ErrClone},
		{"two(1, 2) q[2], $q[1 .. 3];", api.ErrClone}, {"ctrl @ two(1, 2) q[3], q[0], $q[1 .. 4];", api.ErrClone}, {"ctrl @ ctrl @ swap q[0], q[1], q[2], $q[0];", api.ErrClone}, {"swap q[2], $q[size(q) / 2];", api.ErrClone}, {"swap q[0], $q[0 .. 1];", api.ErrType}, {"swap q[0], $q[4];", api.ErrRange},
		// However often it is done.
		{"pow(0) @ swap q[0], $q[0];", api.ErrClone}, {"$pow(0) @ swap q[0];", api.ErrArgs}, {"pow(0) @ x $nobody;", api.ErrName}, {"pow(2 ** 30) @ x $q;", api.ErrType},
	} {
		refused(t, items+c.marked, c.code)
		refused(t, items+"x q[0]; when 1 { "+c.marked+" nobody; }", c.code)
	}
}

// Registers of two names are never the same; the same qubits by two wires of one gate are refused.
func TestClonesInGates(t *testing.T) {
	does(t, "qubit q[4]; gate g a[], b[], c { h a[0]; x b[1]; z c; } g q[0 .. 1], q[2 .. 4], q[1];", "qubits 4 bits 0", "h 0", "x 3", "p 8 1")
	refused(t, "qubit q[4]; gate g a[], b[] { } g q[0 .. 2], $q[1 .. 3];", api.ErrClone)
	refused(t, "qubit q[4]; gate g a[], b[] { } g q, $q;", api.ErrClone)
	refused(t, "qubit q[4]; gate inner a, b[] { } gate g a[] { inner a[1], $a; } g q;", api.ErrClone)
	refused(t, "qubit q[4]; gate g a, b { swap a, $a; } g q[0], q[1];", api.ErrClone)
	refused(t, "qubit q[4]; gate g a[] { ctrl @ x a[0], $a[size(a) - 3]; } g q[1 .. 4];", api.ErrClone)
}

// A gate that applies itself takes steps, and ends by them or by its numbers.
func TestGatesThatApplyThemselves(t *testing.T) {
	refused(t, "qubit q[1]; gate g a { $g a; } g q[0];", api.ErrSteps)
	refused(t, "qubit q[1]; gate g a { $g a; g a; } g q[0];", api.ErrSteps)
	refused(t, "qubit q[1]; gate g a { $inv @ g a; } inv @ g q[0];", api.ErrSteps)
	does(t, "qubit q[1]; gate g(n) a { t a; when n > 0 { g(n - 1) a; h a; } } g(3) q[0];", "qubits 1 bits 0", "p 8 0", "h 0", "h 0", "h 0")
	does(t, "qubit q[1]; gate g(n) a { t a; when n > 0 { inv @ g(n - 1) a; h a; } } g(2) q[0];", "qubits 1 bits 0", "p 2 0", "h 0", "p 2 0", "p 14 0", "h 0")
	does(t, "qubit q[1]; gate even(n) a { when n == 0 { x a; } when n > 0 { odd(n - 1) a; } } gate odd(n) a { when n > 0 { even(n - 1) a; } } even(100) q[0]; h q[0]; even(77) q[0];", "qubits 1 bits 0", "x 0", "h 0")
}
