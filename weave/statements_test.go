package weave_test

import (
	"fmt"
	"slices"
	"testing"

	"qloom/api"
	"qloom/state"
)

func TestFor(t *testing.T) {
	head := "qubits 3 bits 0"
	does(t, "qubit q[3]; for i in 0 .. 3 { p(i + 1) q[i]; }", head, "p 1 0", "p 2 1", "p 3 2")
	does(t, "qubit q[3]; for i in -2 .. 1 { p(-i) q[i + 2]; }", head, "p 2 0", "p 1 1")
	does(t, "qubit q[3]; for i in size(q) - 1 .. 2 * 2 { h q[i % 3]; }", head, "h 2", "h 0")
	for _, bounds := range []string{"0 .. 0", "1 .. 0", "3 .. -3", "2 ** 30 .. -(2 ** 30)", "2 ** 30 .. 2 ** 30", "-(2 ** 30) .. -(2 ** 30)"} {
		does(t, "qubit q[3]; for i in "+bounds+" { x q[i]; nobody; }", head)
	}
	does(t, "qubit q[3]; for i in 2 ** 30 - 1 .. 2 ** 30 { p(i) q[0]; }", head, "p 15 0")
	does(t, "qubit q[3]; for i in -(2 ** 30) .. 3 - 2 ** 30 { p(i) q[0]; }", head, "p 3 0")
	does(t, "qubit q[3]; for i in 0 .. 2 { for j in i .. 2 { h q[j]; p(i + 2 * j) q[j]; } for k in 0 .. i { x q[k]; } }", head,
		"h 0", "h 1", "p 2 1", "h 1", "p 3 1", "x 0")
	// The variable is no place to keep things: each round has its own.
	does(t, "qubit q[3]; for i in 0 .. 3 { for i in 7 .. 8 { } p(i) q[i]; }", head, "p 1 1", "p 2 2")
	for _, c := range []struct {
		marked string
		code   int
	}{
		{"for i in $nobody .. 1 / 0 { }", api.ErrName}, {"for i in 0 .. 1 $/ 0 { }", api.ErrZero}, {"for i in 2 $** 31 .. nobody { nobody; }", api.ErrRange}, {"for i in 0 .. $q { }", api.ErrType},
		{"for i in 0 .. 3 { x $q[i + 1 + (i == 1)]; }", api.ErrRange}, {"for i in 0 .. 3 { when i == 2 { $nobody; } }", api.ErrName}, {"for i in 0 .. 3 { p(6 $/ (2 - i)) q[0]; }", api.ErrZero}, {"for i in 0 .. 3 { swap q[1], $q[i]; }", api.ErrClone},
	} {
		refused(t, "qubit q[3]; "+c.marked, c.code)
	}
}

func TestWhen(t *testing.T) {
	for condition, done := range map[string]bool{"0": false, "1": true, "-1": true, "7": true, "2 ** 30": true, "-(2 ** 30)": true, "1 - 1": false, "size(q) == 2": true, "size(q) == 1": false, "3 % 3": false, "k": true, "k - 5": false} {
		text := "qubit q[2]; const k = 5; when " + condition + " { x q[1]; h q[0]; }"
		if done {
			does(t, text, "qubits 2 bits 0", "x 1", "h 0")
		} else {
			does(t, text, "qubits 2 bits 0")
			does(t, "qubit q[2]; const k = 5; when "+condition+" { nobody; x q; reset nobody; p(1 / 0) q[0]; }", "qubits 2 bits 0")
		}
	}
	refused(t, "qubit q[1]; when $nobody { nobody; }", api.ErrName)
	refused(t, "qubit q[1]; when 1 $/ 0 { nobody; }", api.ErrZero)
	refused(t, "qubit q[1]; when 1 { $nobody; }", api.ErrName)
}

func TestIf(t *testing.T) {
	head := "qubits 2 bits 2"
	items := "qubit q[2]; bit b[2]; h q[0]; h q[1]; measure q -> b; "
	lines := func(more ...string) []string {
		return append([]string{head, "h 0", "h 1", "measure 0 to 0", "measure 1 to 1"}, more...)
	}
	does(t, items+"if b[0] { x q[1]; }", lines("x 1 if 0")...)
	does(t, items+"if !b[0] { x q[1]; }", lines("x 1 if !0")...)
	does(t, items+"if b[1] { x q[1]; } else { h q[0]; t q[0]; }", lines("x 1 if 1", "h 0 if !1", "p 2 0 if !1")...)
	does(t, items+"if !b[1] { x q[1]; } else { h q[0]; t q[0]; }", lines("x 1 if !1", "h 0 if 1", "p 2 0 if 1")...)
	does(t, items+"if b[0] { } else { y q[1]; }", lines("p 12 1 if !0", "x 1 if !0", "p 4 1 if !0")...)
	does(t, items+"if b[0] { phase(3); } else { }", lines("phase 3 if 0")...)
	// Within one another.
	does(t, items+"if b[0] { if b[1] { x q[0]; } else { x q[1]; } h q[0]; } else { if !b[1] { z q[1]; } h q[1]; }", lines("x 0 if 0 1", "x 1 if 0 !1", "h 0 if 0", "p 8 1 if !0 !1", "h 1 if !0")...)
	does(t, items+"if b[0] { if b[0] { x q[0]; } else { reset q[1]; } }", lines("x 0 if 0")...)
	does(t, items+"if b[0] { if !b[0] { reset q; } else { if b[0] { t q[0]; } } } else { if b[0] { reset q; } }", lines("p 2 0 if 0")...)
	// All kinds of statements stand under it; no outcome is used for what is not done.
	does(t, items+"if b[0] { reset q[1]; } else { reset q; } x q[0];", lines("reset 1 if 0", "reset 0 if !0", "reset 1 if !0", "x 0")...)
	does(t, items+"if b[0] { measure q[0] -> b[1]; } if b[1] { measure q[1] -> b[0]; } else { x q[0]; }", lines("measure 0 to 1 if 0", "measure 1 to 0 if 1", "x 0 if !1")...)
	does(t, items+"if b[0] { within { h q[0]; t q[0]; } apply { ctrl @ x q[0], q[1]; measure q[0] -> b[1]; } }", lines("h 0 if 0", "p 2 0 if 0", "x 1 on 0 if 0", "measure 0 to 1 if 0", "p 14 0 if 0", "h 0 if 0")...)
	does(t, items+"if b[1] { for i in 0 .. 2 { when i { inv @ s q[i]; } q[i] ^= !q[1 - i]; } }", lines("x 0 if 1", "x 0 on 1 if 1", "p 12 1 if 1", "x 1 if 1", "x 1 on 0 if 1")...)
	does(t, items+"gate g a, c { h a; ctrl @ y a, c; phase(1); } if b[1] { ctrl @ phase(3) q[0]; inv @ g q[0], q[1]; }",
		lines("p 3 0 if 1", "phase 15 if 1", "p 12 1 if 1", "x 1 on 0 if 1", "p 4 1 if 1", "h 0 if 1")...)
	does(t, items+"for i in 0 .. 2 { if b[i] { x q[i]; } else { p(i + 1) q[i]; } }", lines("x 0 if 0", "p 1 0 if !0", "x 1 if 1", "p 2 1 if !1")...)
}

// As many bits as there can be are asked, each several times.
func TestManyIfs(t *testing.T) {
	nested, line := "x q[0];", "x 0 if 0 1 2 3 4 5 6 7 8 9 10 11"
	for i := range 40 {
		bit := i % 12
		if bit%2 == 0 {
			nested = fmt.Sprintf("if b[%d] { %s }", bit, nested)
		} else {
			nested = fmt.Sprintf("if !b[%d] { } else { %s }", bit, nested)
		}
	}
	text, lines := "qubit q[2]; bit b[12]; for i in 0 .. 12 { h q[1]; measure q[1] -> b[i]; } "+nested, []string{"qubits 2 bits 12"}
	for bit := range 12 {
		lines = append(lines, "h 1", fmt.Sprintf("measure 1 to %d", bit))
	}
	c, want := woven(t, text), circuit(t, append(lines, line)...)
	for nought := range 13 { // at 12: none
		tape := slices.Repeat([]int{1}, 13)
		tape[nought] = 0
		got, _ := state.Run(c, 0, tape)
		shot, _ := state.Run(want, 0, tape)
		equal(t, fmt.Sprint("bit ", nought, " is 0"), got, shot)
	}
	// Bits that exclude each other.
	deep := "reset q;"
	for i := range 24 {
		deep = fmt.Sprintf("if %sb[%d] { %s }", []string{"", "!"}[i/12], i%12, deep)
	}
	does(t, "qubit q[1]; bit b[12]; "+deep, "qubits 1 bits 12")
}

func TestMeasure(t *testing.T) {
	does(t, "qubit q[3]; bit b[3]; h q[0]; measure q -> b;", "qubits 3 bits 3", "h 0", "measure 0 to 0", "measure 1 to 1", "measure 2 to 2")
	does(t, "qubit q[3]; bit b[3]; h q[2]; measure q[1 .. 3] -> b[0 .. 2];", "qubits 3 bits 3", "h 2", "measure 1 to 0", "measure 2 to 1")
	does(t, "qubit a[1]; qubit q[3]; bit c[2]; bit b[3]; h q[2]; measure q[0 .. 2] -> b[1 .. 3]; measure q[2] -> c[1];", "qubits 4 bits 5", "h 3", "measure 1 to 3", "measure 2 to 4", "measure 3 to 1")
	// One alone is as many as a register of one.
	does(t, "qubit q[2]; bit b[1]; h q[1]; measure q[1] -> b; measure q[0 .. 1] -> b[0];", "qubits 2 bits 1", "h 1", "measure 1 to 0", "measure 0 to 0")
	for _, text := range []string{"$measure q -> b;", "$measure q[0] -> b;", "$measure q[0 .. 2] -> b[0];", "$measure q -> b[1 .. 2];", "$measure q[0 .. 1] -> b[0 .. 2];"} {
		refused(t, "qubit q[3]; bit b[2]; "+text, api.ErrSize)
		refused(t, "qubit q[3]; bit b[2]; if b[0] { "+text+" }", api.ErrSize)
	}
}

func TestMeasuringIntoABitThatIsAsked(t *testing.T) {
	items := "qubit q[3]; bit b[3]; "
	for _, text := range []string{
		"if b[0] { measure q[0] -> $b[0]; }", "if !b[0] { measure q[0] -> $b[0]; }", "if b[0] { } else { measure q[0] -> $b[0]; }", "if !b[1] { } else { measure q[0] -> $b[1]; }", "if b[2] { measure q -> $b; }", "if b[0] { measure q -> $b; }", "if b[1] { measure q[0 .. 2] -> $b[1 .. 3]; }",
		"if b[0] { if b[1] { measure q[0] -> $b[0]; } }", "if b[0] { if b[1] { measure q[0] -> $b[1]; } }", "if b[0] { if b[1] { } else { measure q[0] -> $b[0]; } }", "if b[0] { for i in 0 .. 1 { when 1 { within { } apply { measure q[0] -> $b[i]; } } } }", "for i in 0 .. 3 { if b[i] { measure q[0] -> $b[i * 2 % 3]; } }",
	} {
		refused(t, items+text, api.ErrBit)
	}
	for _, text := range []string{"if b[0] { measure q[0] -> b[1]; }", "if b[0] { } measure q -> b;", "if b[0] { if b[1] { } measure q[0] -> b[1]; }", "if b[1] { measure q[0] -> b[0]; measure q[1] -> b[2]; }", "if b[0] { reset q; }", "if b[0] { if b[1] { measure q[2] -> b[2]; } } else { measure q[1 .. 3] -> b[1 .. 3]; }"} {
		woven(t, items+text)
	}
	// The faults of the references, and how many they are, come ahead of it.
	refused(t, items+"if b[0] { measure $nobody -> b[0]; }", api.ErrName)
	refused(t, items+"if b[0] { measure q[0] -> $b[3]; }", api.ErrRange)
	refused(t, items+"if b[0] { $measure q -> b[0]; }", api.ErrSize)
}

func TestReset(t *testing.T) {
	does(t, "qubit q[3]; h q[1]; reset q;", "qubits 3 bits 0", "h 1", "reset 0", "reset 1", "reset 2")
	does(t, "qubit q[3]; h q[1]; reset q[1 .. 3]; reset q[0];", "qubits 3 bits 0", "h 1", "reset 1", "reset 2", "reset 0")
	refused(t, "qubit q[1]; reset $nobody;", api.ErrName)
	refused(t, "qubit q[1]; reset $x;", api.ErrType)
}

func TestWithin(t *testing.T) {
	head := "qubits 3 bits 1"
	items := "qubit q[3]; bit b[1]; "
	does(t, items+"within { x q[0]; } apply { ctrl @ x q[0], q[1]; }", head, "x 0", "x 1 on 0", "x 0")
	does(t, items+"within { h q[0]; t q[0]; s q[1]; } apply { h q[1]; }", head, "h 0", "p 2 0", "p 4 1", "h 1", "p 12 1", "p 14 0", "h 0")
	does(t, items+"within { y q[0]; phase(3); swap q[0], q[1]; q[2] ^= q[0] | q[1]; } apply { h q[0]; }", head,
		"p 8 0", "x 0", "phase 4", "x 0 on 1", "x 1 on 0", "x 0 on 1", "x 2 on 0", "x 2 on 1", "x 2 on 0 1", "h 0", "x 2 on 0 1", "x 2 on 1", "x 2 on 0", "x 0 on 1", "x 1 on 0", "x 0 on 1", "phase 12", "x 0", "p 8 0")
	does(t, items+"within { h q[0]; } apply { }", head)
	does(t, items+"within { } apply { h q[0]; }", head, "h 0")
	does(t, items+"within { within { h q[0]; } apply { t q[0]; } x q[1]; } apply { within { s q[0]; } apply { h q[0]; } }", head,
		"h 0", "p 2 0", "h 0", "x 1", "p 4 0", "h 0", "p 12 0", "x 1", "h 0", "p 14 0", "h 0")
	does(t, items+"for i in 0 .. 2 { within { for j in 0 .. 2 { h q[j]; p(i + j) q[j]; } } apply { swap q[i], q[2]; } }", head,
		"h 0", "h 1", "p 1 1", "x 0 on 2", "x 2 on 0", "x 0 on 2", "p 15 1", "h 1", "h 0", "h 0", "p 1 0", "h 1", "p 2 1", "x 1 on 2", "x 2 on 1", "x 1 on 2", "p 14 1", "h 1", "p 15 0", "h 0")
	does(t, items+"within { h q[0]; t q[0]; } apply { measure q[0] -> b[0]; if b[0] { reset q[1]; } reset q[0]; }", head, "h 0", "p 2 0", "measure 0 to 0", "reset 1 if 0", "reset 0", "p 14 0", "h 0")
	// The faults of the first block come ahead of those of the second.
	refused(t, items+"within { $nobody; } apply { x; }", api.ErrName)
	refused(t, items+"within { } apply { $nobody; }", api.ErrName)
}

// Measurements, resets and ifs do not stand in a gate's body, nor in the first block of a within.
func TestWhatIsNotUnitary(t *testing.T) {
	for _, statement := range []string{"$reset a;", "$reset nobody;", "$measure a -> a;", "$measure nobody -> nobody;", "$if a { }", "$if nobody[1 / 0] { nobody; } else { }", "$measure q -> b;", "$if b[0] { }"} {
		for _, body := range []string{"%s", "x a; %s nobody;", "for i in 0 .. 1 { %s }", "when 1 { %s }", "within { %s } apply { }", "within { } apply { %s }", "within { h a; } apply { for i in 0 .. 1 { %s } }"} {
			gate := "qubit q[2]; bit b[2]; gate g a { " + fmt.Sprintf(body, statement) + " } "
			refused(t, gate+"g q[0];", api.ErrUnitary)
			refused(t, gate+"inv @ g q[0];", api.ErrUnitary)
			refused(t, gate+"gate outer a { g a; } if b[1] { outer q[0]; }", api.ErrUnitary)
			woven(t, unmarked(gate))
			woven(t, unmarked(gate)+"pow(0) @ g q[0];")
		}
	}
	for _, statement := range []string{"$reset q;", "$reset nobody;", "$measure q -> b;", "$measure q[1] -> nobody;", "$if b[0] { }", "$if !b { nobody; } else { }", "$if nobody { }"} {
		for _, place := range []string{"within { %s } apply { }", "within { h q[0]; %s nobody; } apply { nobody; }", "within { for i in 0 .. 1 { %s } } apply { }", "within { when 1 { when 1 { %s } } } apply { }", "within { within { %s } apply { } } apply { }", "within { within { } apply { %s } } apply { }", "within { } apply { within { %s } apply { } }", "if b[1] { within { %s } apply { } }"} {
			refused(t, "qubit q[2]; bit b[2]; "+fmt.Sprintf(place, statement), api.ErrUnitary)
		}
		woven(t, "qubit q[2]; bit b[2]; within { when 0 { "+unmarked(statement)+" } for i in 0 .. 0 { "+unmarked(statement)+" } } apply { }")
	}
	for _, statement := range []string{"reset q;", "measure q -> b;", "if b[0] { }"} {
		for _, place := range []string{"%s", "within { } apply { %s }", "within { h q[0]; } apply { within { t q[0]; } apply { %s } }", "within { h q[0]; } apply { within { t q[0]; } apply { } %s }", "within { h q[0]; } apply { } %s"} {
			woven(t, "qubit q[2]; bit b[2]; "+fmt.Sprintf(place, statement))
		}
	}
}
