package weave_test

import (
	"fmt"
	"slices"
	"strconv"
	"strings"
	"testing"

	"qloom/api"
	"qloom/circ"
	"qloom/state"
	"qloom/tongue"
	"qloom/weave"
)

// none is the fault of a call that has none.
var none = api.Fault{}

func fault(code, at int) api.Fault { return api.Fault{Code: code, At: at} }

// equal holds two things against each other as they are told: a list without
// elements is the same, be it nil or empty.
func equal(t *testing.T, what string, got, want any) {
	t.Helper()
	if g, w := fmt.Sprintf("%+v", got), fmt.Sprintf("%+v", want); g != w {
		t.Errorf("%s: %s, want %s", short(what), short(g), short(w))
	}
}

// short is what is told of a thing that may be long.
func short(thing any) string {
	s := fmt.Sprint(thing)
	return fmt.Sprintf("%q", s[:min(len(s), 1500)])
}

// noise is a row of numbers that looks without order, and is the same each time.
type noise uint64

func (n *noise) below(bound int) int {
	*n = *n*6364136223846793005 + 1442695040888963407
	return int(uint64(*n)>>33) % bound
}

// pick is one of some texts.
func (n *noise) pick(texts ...string) string { return texts[n.below(len(texts))] }

// order is 0 to length - 1, without order.
func (n *noise) order(length int) []int {
	out := make([]int, length)
	for i := range out {
		j := n.below(i + 1)
		out[i], out[j] = out[j], i
	}
	return out
}

// parsed is the tree of a text that is a program.
func parsed(t *testing.T, text string) api.Node {
	t.Helper()
	n, f := tongue.Parse(text)
	if f != none {
		t.Fatalf("Parse of %s: %v", short(text), f)
	}
	return n
}

// woven is the circuit of a program without a fault.
func woven(t *testing.T, text string) api.Circuit {
	t.Helper()
	c, f := weave.Expand(parsed(t, text))
	if f != none {
		t.Fatalf("Expand of %s: %v", short(text), f)
	}
	if f := circ.Check(c); f != none {
		t.Fatalf("%s: its circuit has the fault %v", short(text), f)
	}
	return c
}

// unmarked is a text without its mark.
func unmarked(text string) string { return strings.Replace(text, mark, "", 1) }

// mark stands in a text where a fault is to be told; it begins no token.
const mark = "$"

// refused holds a program, with a mark, to a fault at the mark.
func refused(t *testing.T, marked string, code int) {
	t.Helper()
	at := strings.Index(marked, mark)
	if at < 0 {
		t.Fatalf("no mark in %s", short(marked))
	}
	refusedAt(t, unmarked(marked), code, at)
}

// refusedAt holds a program to a fault, beside which nothing is answered.
func refusedAt(t *testing.T, text string, code, at int) {
	t.Helper()
	c, f := weave.Expand(parsed(t, text))
	if f != fault(code, at) || c.Qubits != 0 || c.Bits != 0 || len(c.Ops) > 0 {
		t.Errorf("Expand of %s: %s, %v, want %v", short(text), short(c), f, fault(code, at))
	}
}

// circuit makes one of its lines, written without the ends of lines.
func circuit(t *testing.T, lines ...string) api.Circuit {
	t.Helper()
	c, f := circ.Parse(strings.Join(lines, "\n") + "\n")
	if f != none {
		t.Fatalf("Parse of %s: %v", short(lines), f)
	}
	return c
}

// mostTapes is how many tapes of one run are tried.
const mostTapes = 300

// runs ranges over the tapes of a run, from the empty one on: those behind which it
// asks for more, each ahead of those that begin with it, and those with which it ends.
func runs(run func(tape []int) (asks bool)) {
	tapes := [][]int{nil}
	for tried := 0; len(tapes) > 0 && tried < mostTapes; tried++ {
		tape := tapes[0]
		tapes = tapes[1:]
		if run(tape) {
			tapes = append(tapes, append(slices.Clone(tape), 0), append(slices.Clone(tape), 1))
		}
	}
}

// alike holds two circuits to the same deeds, from every basis state and with every tape.
func alike(t *testing.T, what string, got, want api.Circuit) {
	t.Helper()
	equal(t, what+": qubits and bits", []int{got.Qubits, got.Bits}, []int{want.Qubits, want.Bits})
	if got.Qubits != want.Qubits || got.Bits != want.Bits {
		return
	}
	for in := range 1 << want.Qubits {
		runs(func(tape []int) bool {
			shot, f := state.Run(want, in, tape)
			other, g := state.Run(got, in, tape)
			equal(t, fmt.Sprint(what, " from ", in, " with ", tape), other, shot)
			equal(t, fmt.Sprint(what, " from ", in, " with ", tape), g.Code, f.Code)
			return f.Code == api.ErrTape
		})
	}
}

// does holds a program to what a circuit does that is written in lines.
func does(t *testing.T, text string, lines ...string) {
	t.Helper()
	alike(t, text, woven(t, text), circuit(t, lines...))
}

// same holds two programs to the same deeds.
func same(t *testing.T, a, b string) {
	t.Helper()
	alike(t, a, woven(t, a), woven(t, b))
}

// written is a number as an operand. A number of a text has nine digits at most.
func written(n int) string {
	const most = 999999999
	switch {
	case n > most:
		return fmt.Sprintf("(%d + %d)", most, n-most)
	case n < -most:
		return fmt.Sprintf("(-%d - %d)", most, -most-n)
	}
	return fmt.Sprintf("(%d)", n)
}

// comesTo holds an expression to a number, where the items stand ahead of it.
func comesTo(t *testing.T, items, expr string, want int) {
	t.Helper()
	text := items + "qubit result[2]; const value = " + expr + "; "
	text += "when value == " + written(want) + " { x result[0]; } when value != " + written(want) + " { x result[1]; }"
	c := woven(t, text)
	equal(t, text, len(c.Ops), 1)
	equal(t, text, c.Ops[0].Q, c.Qubits-2)
}

// idle is statements that take so many steps, and do nothing.
func idle(steps int) string {
	if steps == 0 {
		return ""
	}
	return "for idle in 1 .. " + strconv.Itoa(steps) + " { } "
}

// copyOf has lists of its own.
func copyOf(n api.Node) api.Node {
	n.Kids = slices.Clone(n.Kids)
	for i, kid := range n.Kids {
		n.Kids[i] = copyOf(kid)
	}
	return n
}
