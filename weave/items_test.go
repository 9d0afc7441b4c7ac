package weave_test

import (
	"fmt"
	"testing"

	"qloom/api"
)

// startNames are those of the gates of the start, as they are applied to q.
var startNames = map[string]string{
	"x": "x q[0];", "y": "y q[0];", "z": "z q[0];", "h": "h q[0];", "s": "s q[0];", "t": "t q[0];",
	"p": "p(1) q[0];", "phase": "phase(1);", "swap": "swap q[0], q[1];",
}

// itemsOf are all kinds of items of a name.
func itemsOf(name string) []string {
	return []string{"qubit " + name + "[1];", "bit " + name + "[1];", "const " + name + " = 1;", "gate " + name + " a { }"}
}

func TestNamesAreLaidDownOnce(t *testing.T) {
	for _, first := range itemsOf("n") {
		for _, second := range itemsOf("n") {
			refused(t, first+" $"+second, api.ErrTwice)
			refused(t, first+" qubit q[2]; $"+second+" x q;", api.ErrTwice)
		}
		for _, other := range itemsOf("N") {
			woven(t, first+" "+other+" qubit q[1];")
		}
	}
	for name := range startNames {
		for _, item := range itemsOf(name) {
			refused(t, "$"+item, api.ErrTwice)
			refused(t, "qubit q[1]; $"+item, api.ErrTwice)
		}
	}
	for _, name := range []string{"X", "i", "cx", "id", "sdg", "_", "pp", "u"} {
		for _, item := range itemsOf(name) {
			woven(t, item+" qubit q[1];")
		}
	}
}

// That its name is there already is told ahead of all else of an item.
func TestTwiceComesFirst(t *testing.T) {
	for _, item := range []string{"$qubit q[0];", "$qubit q[9];", "$qubit q[1 / 0];", "$bit q[nobody];", "$bit q[13];", "$const q = 2 ** 40;", "$gate q a, a { }", "$gate q(a, a) b { }", "$gate x a, a { }", "$const x = x;"} {
		refused(t, "qubit q[1]; "+item, api.ErrTwice)
	}
}

func TestNumbersAndWiresOfAGateHaveUnlikeNames(t *testing.T) {
	for _, gate := range []string{
		"gate g a, $a { }", "gate g a, b, $a { }", "gate g(a) $a { }", "gate g(a, $a) b { }", "gate g(a, b) c, $b, a { }", "gate g(a, $a) b, b { }",
		"gate g a, $a[] { }", "gate g a[], $a { }", "gate g(a) b, $a[] { }", "gate g(a, b, c, $b, a) c { }", "gate g(a) b, c, d, $c, d, a { }",
	} {
		refused(t, gate, api.ErrTwice)
		refused(t, "qubit q[1]; x q[0]; "+gate+" x q;", api.ErrTwice)
	}
	// Names that are there, and the gate's own, are free for them.
	does(t, "qubit q[2]; bit b[1]; const k = 3; gate g(k, x, q) b, g, h[] { p(k + x + q) b; z g; y h[0]; } qubit r[1]; g(1, 2, 4) q[0], q[1], r;",
		"qubits 3 bits 1", "p 7 0", "p 8 1", "p 12 2", "x 2", "p 4 2")
}

func TestFaultsOfItems(t *testing.T) {
	for _, c := range []struct {
		marked string
		code   int
	}{
		// A name is not there in its own item.
		{"const a = $a;", api.ErrName}, {"qubit q[$size(q)];", api.ErrName}, {"bit b[$b];", api.ErrName}, {"const a = 1 + -$a;", api.ErrName},
		// Those of the expression.
		{"const a = $nobody;", api.ErrName}, {"const a = $x;", api.ErrType}, {"qubit q[1 $/ 0];", api.ErrZero}, {"bit b[2 $** 31];", api.ErrRange},
		{"qubit q[1]; const a = $q;", api.ErrType}, {"gate g a { } qubit q[$g];", api.ErrType}, {"qubit q[$size(x)];", api.ErrType},
		// Registers of too few, at the expression.
		{"qubit q[$0];", api.ErrRange}, {"bit b[$0];", api.ErrRange}, {"qubit q[$-1];", api.ErrRange}, {"bit b[1 $- 1];", api.ErrRange}, {"qubit q[((0 $* 5))];", api.ErrRange},
		{"qubit q[$-(2 ** 30)];", api.ErrRange}, {"bit b[2 $== 3];", api.ErrRange}, {"const k = 0; qubit q[$k];", api.ErrRange},
		// Of too many, at the item.
		{"$qubit q[9];", api.ErrQubits}, {"$qubit q[2 ** 30];", api.ErrQubits}, {"qubit a[8]; $qubit b[1];", api.ErrQubits}, {"qubit a[3]; qubit b[5]; bit c[12]; $qubit d[1];", api.ErrQubits},
		{"qubit a[7]; $qubit b[2];", api.ErrQubits}, {"qubit a[1]; $qubit b[8];", api.ErrQubits}, {"qubit a[8]; $qubit b[999999999];", api.ErrQubits},
		{"$bit b[13];", api.ErrBits}, {"$bit b[2 ** 30];", api.ErrBits}, {"bit a[12]; $bit b[1];", api.ErrBits}, {"bit a[5]; bit b[7]; qubit q[8]; $bit c[1];", api.ErrBits}, {"bit a[11]; $bit b[2];", api.ErrBits},
		// With all qubits there, fewer than 1 are still refused as such.
		{"qubit a[8]; qubit b[$0];", api.ErrRange}, {"bit a[12]; bit b[$-1];", api.ErrRange},
	} {
		refused(t, c.marked, c.code)
	}
}

// A name is there from its item on; what a name of a gate's body stands for is asked when it is applied.
func TestNamesThatAreNotThereYet(t *testing.T) {
	for _, c := range []struct{ use, item string }{
		{"x $q[0];", "qubit q[1];"}, {"measure r -> $b;", "bit b[1];"}, {"p($k) r[0];", "const k = 1;"}, {"$g r[0];", "gate g a { }"}, {"reset $q;", "qubit q[1];"},
		{"when $size(q) { }", "qubit q[1];"}, {"for i in 0 .. $k { }", "const k = 1;"}, {"r[0] ^= $q[0];", "qubit q[1];"}, {"if $b[0] { }", "bit b[1];"},
	} {
		refused(t, "qubit r[1]; "+c.use+" "+c.item, api.ErrName)
	}
	does(t, "qubit q[1]; gate first a { second a; p(k) a; } gate second a { x a; } const k = 3; first q[0];", "qubits 1 bits 0", "x 0", "p 3 0")
	refused(t, "qubit q[1]; gate first a { second a; p($k) a; } gate second a { x a; } first q[0]; const k = 3;", api.ErrName)
	refused(t, "qubit q[1]; gate first a { $second a; } first q[0]; gate second a { x a; }", api.ErrName)
	does(t, "qubit q[1]; gate g a { for i in 0 .. 2 { when i == 1 { h a; } } } g q[0]; const i = 7; const a = 2; g q[0];", "qubits 1 bits 0")
}

func TestNamesInAGatesBody(t *testing.T) {
	// The gate's numbers and wires come first, then the program's numbers and gates.
	does(t, "qubit q[2]; const k = 1; const m = 2; gate g(k) a { p(k + m) a; } g(8) q[1];", "qubits 2 bits 0", "p 10 1")
	does(t, "qubit q[2]; qubit r[2]; gate g q, r[] { x q; h r[1]; } g q[1], r;", "qubits 4 bits 0", "x 1", "h 3")
	does(t, "qubit q[2]; gate g(q) r { p(q) r; } g(5) q[1];", "qubits 2 bits 0", "p 5 1")
	// No registers of the program.
	for _, body := range []string{"x $q[0];", "x $q;", "ctrl @ x $q[0], a;", "a ^= $q[0];", "$q[0] ^= a;", "p($size(q)) a;", "p($size(b)) a;", "p($q) a;", "when $q { }", "$q a;", "$b a;", "swap a, $q[nobody];", "for i in 0 .. $size(q) { }", "inner $q;"} {
		for _, gate := range []string{"gate g a { %s }", "gate g a { for i in 0 .. 1 { %s } }", "gate g a { within { %s } apply { } }", "gate g a { within { } apply { when 1 { %s } } }"} {
			refused(t, "qubit q[2]; bit b[2]; gate inner c[] { } "+fmt.Sprintf(gate, body)+" g q[1];", api.ErrName)
		}
	}
	// Nor the numbers and wires of a gate that applies it, nor variables around its application.
	refused(t, "qubit q[1]; gate g a { x $w; } gate outer w { g w; } outer q[0];", api.ErrName)
	refused(t, "qubit q[1]; gate g a { p($n) a; } gate outer(n) w { g w; } outer(1) q[0];", api.ErrName)
	refused(t, "qubit q[1]; gate g a { p($i) a; } for i in 0 .. 1 { g q[0]; }", api.ErrName)
	does(t, "qubit q[1]; const i = 3; gate g a { p(i) a; } for i in 8 .. 9 { g q[0]; }", "qubits 1 bits 0", "p 3 0")
	does(t, "qubit q[1]; const n = 3; gate g a { p(n) a; } gate outer(n) x { g x; p(n) x; } outer(8) q[0];", "qubits 1 bits 0", "p 11 0")
	does(t, "qubit q[1]; gate g a { h a; } gate outer(g) b { for x in 0 .. 1 { p(g + x) b; } x b; } outer(3) q[0];", "qubits 1 bits 0", "p 3 0", "x 0")
	// A gate's name can be hidden by what comes first.
	for _, text := range []string{"gate g x { $x x; } g q[0];", "gate g(x) a { $x a; } g(1) q[0];", "gate g x[] { $x x[0]; } g q;", "gate g a { for x in 0 .. 1 { $x a; } } g q[0];"} {
		refused(t, "qubit q[1]; "+text, api.ErrType)
	}
	// Its body is looked at only when it is applied, and done.
	does(t, "qubit q[1]; gate g a { nobody; x q; reset a; } pow(0) @ g q[0]; x q[0];", "qubits 1 bits 0", "x 0")
	does(t, "qubit q[1]; gate g a { nobody; x q; reset a; } when 0 { g q[0]; }", "qubits 1 bits 0")
	refused(t, "qubit q[1]; gate g a { $nobody; x q; reset a; } g q[0];", api.ErrName)
}

func TestVariablesHideNames(t *testing.T) {
	does(t, "qubit q[1]; const k = 1; for k in 5 .. 6 { p(k) q[0]; } h q[0]; p(k) q[0];", "qubits 1 bits 0", "p 5 0", "h 0", "p 1 0")
	does(t, "qubit q[1]; for i in 0 .. 2 { for i in 4 .. 5 { p(i) q[0]; } h q[0]; p(i) q[0]; }", "qubits 1 bits 0", "p 4 0", "h 0", "p 4 0", "h 0", "p 1 0")
	does(t, "qubit q[1]; for i in 2 .. 3 { for i in i .. i + 2 { p(i) q[0]; } }", "qubits 1 bits 0", "p 5 0")
	does(t, "qubit q[1]; gate g(n) a { for n in n .. n + 1 { for n in n + 1 .. n + 2 { p(n) a; } p(n) a; } h a; p(n) a; } g(3) q[0];", "qubits 1 bits 0", "p 7 0", "h 0", "p 3 0")
	does(t, "qubit q[1]; for i in 0 .. 0 { } const i = 3; p(i) q[0];", "qubits 1 bits 0", "p 3 0")
	for name, use := range startNames {
		refused(t, "qubit q[2]; for "+name+" in 0 .. 1 { $"+use+" }", api.ErrType)
		does(t, "qubit q[2]; for "+name+" in 0 .. 1 { } "+use+" inv @ "+use, "qubits 2 bits 0")
	}
	refused(t, "qubit q[1]; for q in 0 .. 1 { x $q[0]; }", api.ErrType)
	refused(t, "qubit q[1]; for q in 0 .. 1 { p($size(q)) q[0]; }", api.ErrType)
	refused(t, "qubit q[1]; bit b[1]; for b in 0 .. 1 { measure q -> $b; }", api.ErrType)
	refused(t, "qubit q[1]; gate g a { for a in 0 .. 1 { x $a; } } g q[0];", api.ErrType)
	refused(t, "qubit q[1]; gate g a { for a in 0 .. 1 { } x a; for b in 0 .. 1 { x $b; } } g q[0];", api.ErrType)
	refused(t, "qubit q[1]; for i in 0 .. 1 { } p($i) q[0];", api.ErrName)
	refused(t, "qubit q[1]; for i in 0 .. $i { }", api.ErrName)
	refused(t, "qubit q[1]; for i in $i .. 1 { }", api.ErrName)
	refused(t, "qubit q[1]; gate g a { for i in 0 .. 1 { } p($i) a; } g q[0];", api.ErrName)
}
