package weave_test

import (
	"fmt"
	"testing"

	"qloom/api"
)

func TestReferences(t *testing.T) {
	does(t, "qubit a[2]; qubit b[3]; reset a;", "qubits 5 bits 0", "reset 0", "reset 1")
	does(t, "qubit a[2]; qubit b[3]; reset b;", "qubits 5 bits 0", "reset 2", "reset 3", "reset 4")
	does(t, "qubit a[2]; qubit b[3]; reset b[1];", "qubits 5 bits 0", "reset 3")
	does(t, "qubit a[2]; qubit b[3]; reset b[0 .. 3];", "qubits 5 bits 0", "reset 2", "reset 3", "reset 4")
	does(t, "qubit a[2]; qubit b[3]; reset b[1 .. 3];", "qubits 5 bits 0", "reset 3", "reset 4")
	does(t, "qubit a[2]; qubit b[3]; reset b[0 .. 1]; x b[0]; x a[1]; h a[0]; y b[2];", "qubits 5 bits 0", "reset 2", "x 2", "x 1", "h 0", "p 12 4", "x 4", "p 4 4")
	does(t, "qubit q[4]; const k = 3; for i in 0 .. k { swap q[i], q[i + 1]; } x q[-1 % 4]; z q[size(q) / 2];", "qubits 4 bits 0",
		"x 0 on 1", "x 1 on 0", "x 0 on 1", "x 1 on 2", "x 2 on 1", "x 1 on 2", "x 2 on 3", "x 3 on 2", "x 2 on 3", "x 3", "p 8 2")
	// Wires with brackets are like registers, of what they were given.
	does(t, "qubit q[5]; gate g a[] { x a[0]; z a[size(a) - 1]; inner a[1 .. 3]; inner a; } gate inner b[] { h b[1]; } g q[1 .. 5];", "qubits 5 bits 0", "x 1", "p 8 4", "h 3", "h 2")
	does(t, "qubit q[3]; gate g a { x a; inner a; } gate inner b { h b; } g q[2];", "qubits 3 bits 0", "x 2", "h 2")
}

// places are where a reference to qubits of q stands, with what stands in place of it.
var places = []string{"x %s;", "ctrl @ x %s, q[3];", "ctrl @ x q[3], %s;", "many %s;", "reset %s;", "measure %s -> b;", "%s ^= 1;", "q[3] ^= %s;", "q[3] ^= q[2] & !%s;", "swap q[3], %s;"}

func TestFaultsOfReferences(t *testing.T) {
	items := "qubit q[4]; bit b[3]; const k = 1; gate many a[] { } "
	for _, place := range places {
		for _, c := range []struct {
			marked string
			code   int
		}{
			{"$nobody", api.ErrName}, {"$nobody[0]", api.ErrName}, {"$nobody[0 .. 1]", api.ErrName}, {"$nobody[1 / 0]", api.ErrName},
			{"$b", api.ErrType}, {"$b[0]", api.ErrType}, {"$b[0 .. 1]", api.ErrType}, {"$k", api.ErrType}, {"$k[0]", api.ErrType}, {"$many", api.ErrType}, {"$x", api.ErrType}, {"$x[0]", api.ErrType}, {"$b[1 / 0]", api.ErrType}, {"$b[9]", api.ErrType},
			{"q[1 $/ 0]", api.ErrZero}, {"q[$nobody]", api.ErrName}, {"q[$q]", api.ErrType}, {"q[9 .. $nobody]", api.ErrName}, {"q[$nobody .. 1 / 0]", api.ErrName}, {"q[-1 .. 1 $/ 0]", api.ErrZero}, {"q[2 $** 31]", api.ErrRange},
			{"$q[4]", api.ErrRange}, {"$q[-1]", api.ErrRange}, {"$q[2 ** 30]", api.ErrRange}, {"$q[-(2 ** 30)]", api.ErrRange}, {"$q[0 .. 0]", api.ErrRange}, {"$q[4 .. 4]", api.ErrRange}, {"$q[2 .. 1]", api.ErrRange}, {"$q[0 .. 5]", api.ErrRange}, {"$q[-1 .. 1]", api.ErrRange},
			{"$q[4 .. 5]", api.ErrRange}, {"$q[3 .. 5]", api.ErrRange}, {"$q[0 .. 2 ** 30]", api.ErrRange}, {"$q[-(2 ** 30) .. 2 ** 30]", api.ErrRange}, {"$q[1 .. -1]", api.ErrRange}, {"$q[2 ** 30 .. 2 ** 30]", api.ErrRange},
		} {
			refused(t, items+fmt.Sprintf(place, c.marked), c.code)
		}
	}
}

// Where one is asked for, a register is none, however few it has.
func TestSingleOnesAreAskedFor(t *testing.T) {
	for _, place := range []string{"x %s;", "ctrl @ phase(1) %s;", "%s ^= 1;", "r[0] ^= %s;", "r[0] ^= 1 & !%s;", "swap r[0], %s;", "swap %s, q[0];", "if c[0] { h %s; }"} {
		for _, marked := range []string{"$q", "$q[0 .. 1]", "$q[0 .. size(q)]"} {
			refused(t, "qubit q[1]; qubit r[2]; bit c[1]; "+fmt.Sprintf(place, marked), api.ErrType)
		}
	}
	for _, marked := range []string{"$c", "$c[0 .. 1]"} {
		refused(t, "qubit q[1]; bit c[1]; if "+marked+" { }", api.ErrType)
		refused(t, "qubit q[1]; bit c[1]; if !"+marked+" { } else { }", api.ErrType)
	}
	// Where several are, one is none.
	for _, marked := range []string{"$q[0]", "$q[size(q) - 1]"} {
		refused(t, "qubit q[1]; gate many a[] { } many "+marked+";", api.ErrType)
		refused(t, "qubit q[1]; qubit r[1]; gate many a[] { } ctrl @ many r[0], "+marked+";", api.ErrType)
	}
	refused(t, "qubit q[1]; gate many a[] { } gate g a { many $a; } g q[0];", api.ErrType)
	refused(t, "qubit q[1]; gate g a[] { x $a; } g q;", api.ErrType)
	does(t, "qubit q[1]; gate many a[] { x a[0]; } many q; many q[0 .. 1]; many q;", "qubits 1 bits 0", "x 0")
	// Outside of its bounds is told ahead of that.
	refused(t, "qubit q[2]; x $q[1 .. 3];", api.ErrRange)
	refused(t, "qubit q[1]; bit b[1]; if $b[0 .. 2] { }", api.ErrRange)
}

// A wire without brackets is one qubit, and has no brackets behind it.
func TestWiresWithoutBrackets(t *testing.T) {
	for _, marked := range []string{"x $a[0];", "x $a[0 .. 1];", "x $a[nobody];", "ctrl @ x $a[0], b;", "$a[0] ^= 1;", "b ^= $a[0];", "swap b, $a[5];", "many $a[0 .. 1];"} {
		refused(t, "qubit q[2]; gate many c[] { } gate g a, b { "+marked+" } g q[0], q[1];", api.ErrType)
	}
	does(t, "qubit q[2]; gate g a, b { ctrl @ x a, b; a ^= b; } g q[1], q[0];", "qubits 2 bits 0", "x 0 on 1", "x 1 on 0")
}

func TestReferencesToBits(t *testing.T) {
	for _, c := range []struct {
		marked string
		code   int
	}{
		{"if $nobody { }", api.ErrName}, {"if $q[0] { }", api.ErrType}, {"if $k { }", api.ErrType}, {"if $x { }", api.ErrType}, {"if b[1 $/ 0] { }", api.ErrZero}, {"if $b[2] { }", api.ErrRange}, {"if $b[-1] { }", api.ErrRange}, {"if !$b[0 .. 2] { }", api.ErrType},
		{"measure q -> $nobody;", api.ErrName}, {"measure q -> $q;", api.ErrType}, {"measure q -> $k;", api.ErrType}, {"measure q -> b[0 .. 1 $/ 0];", api.ErrZero}, {"measure q -> $b[0 .. 3];", api.ErrRange}, {"measure q -> $b[1 .. 1];", api.ErrRange},
		{"measure $b -> b;", api.ErrType}, {"measure $nobody -> nobody;", api.ErrName}, {"measure $q[2] -> nobody;", api.ErrRange}, {"measure q -> $q[nobody];", api.ErrType},
	} {
		refused(t, "qubit q[2]; bit b[2]; const k = 1; "+c.marked, c.code)
	}
}
