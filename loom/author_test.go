package loom_test

import (
	"fmt"
	"slices"
	"strconv"
	"strings"
)

// head are the items of all programs without order: five qubits at most, some bits,
// and gates of one's own.
func head(qubits, bits int) string {
	text := fmt.Sprintf("qubit q[%d]; ", qubits)
	if bits > 0 {
		text += fmt.Sprintf("bit b[%d]; ", bits)
	}
	return text + "const k = 3; gate turn(n) a { h a; p(n) a; s a; } gate all a[] { for i in 0 .. size(a) { turn(i) a[i]; } } "
}

// author writes programs without order and without faults. Few of their gates have
// controls, as Base takes no more.
type author struct {
	noise
	qubits int
	bits   int
	wide   int // how many more gates with controls may be written
}

// program is a program's text, of so many statements.
func (a *author) program(statements int) string {
	return head(a.qubits, a.bits) + a.statements(statements, nil, a.bits > 0)
}

// statements are so many; measurements and resets are among them, if meets says so,
// but none into a bit that is asked.
func (a *author) statements(count int, asked []int, meets bool) string {
	var out []string
	for range count {
		out = append(out, a.statement(asked, meets))
	}
	return strings.Join(out, " ")
}

func (a *author) statement(asked []int, meets bool) string {
	switch a.below(12) {
	case 0:
		if meets {
			return fmt.Sprintf("reset q[%d];", a.below(a.qubits))
		}
	case 1, 2:
		if to := a.below(max(a.bits, 1)); meets && !slices.Contains(asked, to) {
			return fmt.Sprintf("measure q[%d] -> b[%d];", a.below(a.qubits), to)
		}
	case 3:
		if meets {
			bit := a.below(a.bits)
			inner := append(slices.Clone(asked), bit)
			return fmt.Sprintf("if %sb[%d] { %s } else { %s }", a.pick("", "!"), bit, a.statements(a.below(3), inner, true), a.statements(a.below(2), inner, true))
		}
	case 4:
		return fmt.Sprintf("within { %s } apply { %s }", a.statements(1, nil, false), a.statements(1, asked, meets))
	case 5:
		return fmt.Sprintf("for i in %d .. %d { p(i * k) q[%d]; }", a.below(3), a.below(4), a.below(a.qubits))
	case 6, 7, 8:
		if a.wide > 0 && a.qubits > 1 {
			a.wide--
			return a.controlled()
		}
	}
	return a.plain()
}

// plain is a gate without controls.
func (a *author) plain() string {
	q := a.below(a.qubits)
	if a.below(10) == 0 {
		return a.pick("all q;", "inv @ all q;", "phase(5);", fmt.Sprintf("q[%d] ^= 1;", q))
	}
	return a.pick("", "", "inv @ ", "pow(3) @ ", "pow(-2) @ ") + a.pick("x", "y", "z", "h", "h", "h", "s", "t", "turn(k)", "p("+strconv.Itoa(a.below(16))+")") + fmt.Sprintf(" q[%d];", q)
}

// controlled is a gate with controls, on some of the qubits.
func (a *author) controlled() string {
	order := a.order(a.qubits)
	ref := func(i int) string { return fmt.Sprintf("q[%d]", order[i]) }
	if a.qubits > 2 && a.below(4) == 0 {
		return fmt.Sprintf("%s ^= %s%s & %s;", ref(0), a.pick("", "!"), ref(1), ref(2))
	}
	controls := 1
	if a.below(3) == 0 {
		controls = min(2, a.qubits-1)
	}
	var refs []string
	for i := range controls + 1 {
		refs = append(refs, ref(i))
	}
	gate := a.pick("x", "x", "y", "z", "h", "s", "t", "p("+strconv.Itoa(a.below(16))+")")
	return strings.Repeat("ctrl @ ", controls) + gate + " " + strings.Join(refs, ", ") + ";"
}
