package tongue_test

import (
	"fmt"
	"slices"
	"strconv"
	"strings"
	"testing"

	"qloom/api"
	"qloom/tongue"
)

// none is the fault of a call that has none.
var none = api.Fault{}

func fault(code, at int) api.Fault { return api.Fault{Code: code, At: at} }

func equal[T comparable](t *testing.T, what string, got, want T) {
	t.Helper()
	if got != want {
		t.Errorf("%s: %s, want %s", short(what), short(got), short(want))
	}
}

// short is what is told of a thing that may be long.
func short(thing any) string {
	s := fmt.Sprint(thing)
	return fmt.Sprintf("%q", s[:min(len(s), 400)])
}

// kinds are the names of the kinds of nodes.
var kinds = []string{
	api.NProgram: "program", api.NQubit: "qubit", api.NBit: "bit", api.NConst: "const", api.NGate: "gate", api.NParam: "param", api.NBlock: "block",
	api.NApply: "apply", api.NInv: "inv", api.NCtrl: "ctrl", api.NPow: "pow", api.NFor: "for", api.NWhen: "when", api.NIf: "if", api.NMeasure: "measure",
	api.NReset: "reset", api.NWithin: "within", api.NFlip: "flip", api.NRef: "ref", api.NNum: "num", api.NName: "name", api.NSize: "size", api.NNeg: "neg",
	api.NBin: "bin", api.NGroup: "group", api.NOne: "one", api.NNot: "not", api.NAnd: "and", api.NOr: "or", api.NXor: "xor",
}

// told is a tree as a text: of each node its kind, @ and its place, : and its
// name, = and its number, and in brackets what stands below it; what is empty or
// 0 is left out, but for places.
func told(n api.Node) string {
	var out strings.Builder
	tell(&out, n)
	return out.String()
}

func tell(out *strings.Builder, n api.Node) {
	if n.Kind > 0 && n.Kind < len(kinds) {
		out.WriteString(kinds[n.Kind])
	} else {
		fmt.Fprint(out, "kind ", n.Kind)
	}
	if n.At != 0 || n.Kind != api.NProgram && n.Kind != api.NGroup {
		fmt.Fprint(out, "@", n.At)
	}
	if n.Name != "" {
		fmt.Fprint(out, ":", n.Name)
	}
	if n.N != 0 {
		fmt.Fprint(out, "=", n.N)
	}
	for i, kid := range n.Kids {
		out.WriteByte("( "[min(i, 1)])
		tell(out, kid)
	}
	if len(n.Kids) > 0 {
		out.WriteByte(')')
	}
}

// alike: are two trees the same, be a list without elements nil or empty?
func alike(a, b api.Node) bool {
	return a.Kind == b.Kind && a.At == b.At && a.Name == b.Name && a.N == b.N && slices.EqualFunc(a.Kids, b.Kids, alike)
}

// placeless is a tree whose places are all 0.
func placeless(n api.Node) api.Node {
	n = copyOf(n)
	forPlaces(&n, func(at *int) { *at = 0 })
	return n
}

// forPlaces visits the places of all nodes.
func forPlaces(n *api.Node, visit func(at *int)) {
	visit(&n.At)
	for i := range n.Kids {
		forPlaces(&n.Kids[i], visit)
	}
}

// copyOf has lists of its own.
func copyOf(n api.Node) api.Node {
	n.Kids = slices.Clone(n.Kids)
	for i, kid := range n.Kids {
		n.Kids[i] = copyOf(kid)
	}
	return n
}

// parsed is the tree of a text that is a program.
func parsed(t *testing.T, text string) api.Node {
	t.Helper()
	n, f := tongue.Parse(text)
	if f != none {
		t.Fatalf("Parse of %s: %v", short(text), f)
	}
	return n
}

// refused holds a text to a fault, beside which nothing is answered.
func refused(t *testing.T, text string, want api.Fault) {
	t.Helper()
	n, f := tongue.Parse(text)
	if f != want || !alike(n, api.Node{}) {
		t.Errorf("Parse of %s: %s, %v, want %v", short(text), short(told(n)), f, want)
	}
}

// nest is a text with as many of one piece ahead of it as of another behind it.
func nest(ahead, text, behind string, times int) string {
	return strings.Repeat(ahead, times) + text + strings.Repeat(behind, times)
}

// noise is a row of numbers that looks without order, and is the same each time.
type noise uint64

func (n *noise) below(bound int) int {
	*n = *n*6364136223846793005 + 1442695040888963407
	return int(uint64(*n)>>33) % bound
}

// pick is one of some texts.
func (n *noise) pick(texts ...string) string { return texts[n.below(len(texts))] }

// everything is a program with each rule of the grammar and each of its branches.
const everything = `// a program
qubit q[2 * 4 - 1]; bit b[size(q)];
const k = -3 ** 2 + (4 - k) / 5 % 6; const c = k == 1; const d = 1 != k; const e = 1 < 2; const f = 1 <= 2; const g = 1 > 2; const h = (1 >= 2) ** -(2);
gate one a { }
gate two(m, n) a, b[], c [ ] { h a; x b[0]; inv @ one c; within { } apply { two(1, 2) a, b[0 .. 2], c; } }
for i in 0 .. size(q) { when i % 2 == 0 { h q[i]; } }
if b[0] { x q[0]; } if !b { y q; } else { phase(3); }
if b { if c { } else { } } else { }
measure q[0 .. 2] -> b[1 .. 3]; reset q; reset q[0];
ctrl @ inv @ pow(2 + 1) @ pow(k) @ p(k, 2) q[0], q[1];
t;
q[0] ^= !(q[1] | q[2] & 1) ^ q[3] & (0 ^ q[4 .. 5]) | !!q;
q ^= 1;
// the end`

// place is a place as it is told.
func place(at int) string { return "@" + strconv.Itoa(at) }

// number is the number of its digits.
func number(digits string) int {
	n, _ := strconv.Atoi(digits)
	return n
}
