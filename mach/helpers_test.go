package mach_test

import (
	"fmt"
	"math"
	"slices"
	"strings"
	"testing"

	"qloom/api"
	"qloom/circ"
	"qloom/mach"
)

// none is the fault of a call that has none.
var none = api.Fault{}

func fault(code, at int) api.Fault { return api.Fault{Code: code, At: at} }

// equal holds two things against each other as they are told: a list without
// elements is the same, be it nil or empty.
func equal(t *testing.T, what string, got, want any) {
	t.Helper()
	if g, w := fmt.Sprintf("%+v", got), fmt.Sprintf("%+v", want); g != w {
		t.Errorf("%s: %s, want %s", short(what), short(g), short(w))
	}
}

// short is what is told of a thing that may be long.
func short(thing any) string {
	s := fmt.Sprint(thing)
	return fmt.Sprintf("%q", s[:min(len(s), 600)])
}

// lines are a text of these lines.
func lines(list ...string) string { return strings.Join(list, "\n") + "\n" }

// circuit makes one of its lines, written without the ends of lines.
func circuit(t *testing.T, list ...string) api.Circuit {
	t.Helper()
	c, f := circ.Parse(lines(list...))
	if f != none {
		t.Fatalf("Parse of %s: %v", short(list), f)
	}
	return c
}

// image is the image of a text of these lines, as the document's words say it.
func image(t *testing.T, list ...string) string {
	t.Helper()
	out, f := wantedImage(lines(list...))
	if f != none {
		t.Fatalf("%s: %v", short(list), f)
	}
	return out
}

// sealed is an image with that head and these instructions' bytes, and with the sum
// that it must have.
func sealed(qubits, bits, count byte, rest ...byte) string {
	ahead := append([]byte{'Q', 'L', 'M', '1', qubits, bits, 0, count}, rest...)
	return string(ahead) + wantedSum(string(ahead))
}

// checked holds Check, and Run and Text of the same image, to a fault.
func checked(t *testing.T, what, image string, want api.Fault) {
	t.Helper()
	if f := mach.Check(image); f != want {
		t.Errorf("%s: Check of %s: %v, want %v", what, short(image), f, want)
	}
	if want == none {
		return
	}
	run, f := mach.Run(image, -1, nil, -1)
	if f != want || !isEmpty(run) {
		t.Errorf("%s: Run of %s: %s, %v, want %v", what, short(image), short(run), f, want)
	}
	text, f := mach.Text(image)
	if f != want || text != "" {
		t.Errorf("%s: Text of %s: %s, %v, want %v", what, short(image), short(text), f, want)
	}
}

// isEmpty: is nothing answered?
func isEmpty(r api.Run) bool {
	return len(r.Shot.Amps)+len(r.Shot.Bits)+r.Shot.Used+r.Steps == 0
}

// run is Run's answer where nothing is refused.
func run(t *testing.T, image string, in int, tape []int, fuel int) api.Run {
	t.Helper()
	out, f := mach.Run(image, in, tape, fuel)
	if f != none {
		t.Fatalf("Run of %s from %d with %v: %v", short(image), in, tape, f)
	}
	return out
}

// stopped holds Run to a fault, beside which nothing is answered.
func stopped(t *testing.T, what, image string, in int, tape []int, fuel int, want api.Fault) {
	t.Helper()
	out, f := mach.Run(image, in, tape, fuel)
	if f != want || !isEmpty(out) {
		t.Errorf("%s: Run of %s from %d with %v and %d: %s, %v, want %v", short(what), short(image), in, tape, fuel, short(out), f, want)
	}
}

// unassembled holds Assemble to a fault, beside which nothing is answered.
func unassembled(t *testing.T, what, text string, want api.Fault) {
	t.Helper()
	out, f := mach.Assemble(text)
	if f != want || out != "" {
		t.Errorf("%s: Assemble of %s: %s, %v, want %v", short(what), short(text), short(out), f, want)
	}
}

// assembled holds Assemble to the image that the document's words say.
func assembled(t *testing.T, text string) {
	t.Helper()
	want, wf := wantedImage(text)
	if got, f := mach.Assemble(text); got != want || f != wf {
		t.Errorf("Assemble of %s: %s, %v, want %s, %v", short(text), short(got), f, short(want), wf)
	}
}

// emitted is Emit's image where nothing is refused.
func emitted(t *testing.T, c api.Circuit) string {
	t.Helper()
	out, f := mach.Emit(c)
	if f != none {
		t.Fatalf("Emit of %s: %v", short(c), f)
	}
	return out
}

// unemitted holds Emit to a fault, beside which nothing is answered.
func unemitted(t *testing.T, what string, c api.Circuit, want api.Fault) {
	t.Helper()
	out, f := mach.Emit(c)
	if f != want || out != "" {
		t.Errorf("%s: Emit of %s: %s, %v, want %v", what, short(c), short(out), f, want)
	}
}

// tapes are all tapes of so many outcomes.
func tapes(length int) [][]int {
	out := [][]int{{}}
	for range length {
		var longer [][]int
		for _, tape := range out {
			longer = append(longer, append(slices.Clone(tape), 0), append(slices.Clone(tape), 1))
		}
		out = longer
	}
	return out
}

// copyOf has lists of its own.
func copyOf(c api.Circuit) api.Circuit {
	c.Ops = slices.Clone(c.Ops)
	for i, op := range c.Ops {
		c.Ops[i].Ctl, c.Ops[i].If = slices.Clone(op.Ctl), slices.Clone(op.If)
	}
	return c
}

// noise is a row of numbers that looks without order, and is the same each time.
type noise uint64

func (n *noise) below(bound int) int {
	*n = *n*6364136223846793005 + 1442695040888963407
	return int(uint64(*n)>>33) % bound
}

// odd is a number that is no qubit, bit or kind, or a small one.
func (n *noise) odd() int {
	return []int{math.MinInt64, math.MinInt64 + 1, -1 << 32, -13, -1, 0, 1, 2, 3, 4, 7, 11, 12, 13, 16, 1 << 32, math.MaxInt64}[n.below(17)]
}

// operand is one of that letter.
func (n *noise) operand(letter byte, qubits, bits int) string {
	bound := map[byte]int{'K': 16, 'q': qubits, 'b': bits, 'v': 2, 'r': 4, 'n': 4}[letter]
	if letter == 'a' {
		return fmt.Sprintf("to%d", n.below(5))
	}
	if letter == 'n' && n.below(8) == 0 {
		return fmt.Sprint(n.below(65536))
	}
	return fmt.Sprint(n.below(bound))
}

// instruction is the line of one.
func (n *noise) instruction(qubits, bits int) string {
	for {
		row := manual[n.below(15)]
		if strings.Contains(row.operands, "b") && bits == 0 || row.word == "cx" && qubits == 1 || row.word == "halt" && n.below(3) > 0 {
			continue
		}
		line := row.word
		for _, letter := range []byte(row.operands) {
			line += " " + n.operand(letter, qubits, bits)
		}
		words := strings.Fields(line)
		if row.word == "cx" && words[1] == words[2] {
			continue
		}
		return line
	}
}

// program is a text without faults, of so many instructions and five labels, somewhere.
func (n *noise) program(qubits, bits, instructions int) string {
	list := []string{fmt.Sprintf("qubits %d bits %d", qubits, bits)}
	for range instructions {
		list = append(list, n.instruction(qubits, bits))
	}
	for i := range 5 {
		list = slices.Insert(list, 1+n.below(len(list)), fmt.Sprintf("to%d:", i))
	}
	return lines(list...)
}

// tape is one of some outcomes, at times with something else.
func (n *noise) tape() []int {
	out := make([]int, n.below(12))
	for i := range out {
		out[i] = n.below(2)
		if n.below(40) == 0 {
			out[i] = n.odd()
		}
	}
	return out
}

// op is one of any kind that Emit takes.
func (n *noise) op(qubits, bits int) api.Op {
	q := n.below(qubits)
	kinds := []api.Op{{Kind: api.Phase, K: n.below(16)}, {Kind: api.X, Q: q}, {Kind: api.H, Q: q}, {Kind: api.P, K: n.below(16), Q: q}, {Kind: api.Reset, Q: q}}
	if bits > 0 {
		kinds = append(kinds, api.Op{Kind: api.Measure, Q: q, Bit: n.below(bits)})
	}
	if qubits > 1 {
		control := (q + 1 + n.below(qubits-1)) % qubits
		kinds = append(kinds, api.Op{Kind: api.X, Q: q, Ctl: []int{control}})
	}
	op := kinds[n.below(len(kinds))]
	for bits > 0 && n.below(2) == 0 {
		op.If = append(op.If, (1+n.below(bits))*(1-2*n.below(2)))
	}
	return op
}

// circuit is one of so many operations that Emit takes, of which at most some ask for
// outcomes.
func (n *noise) circuit(qubits, bits, ops, asking int) api.Circuit {
	c := api.Circuit{Qubits: qubits, Bits: bits}
	for len(c.Ops) < ops {
		op := n.op(qubits, bits)
		if op.Kind == api.Measure || op.Kind == api.Reset {
			if asking == 0 {
				continue
			}
			asking--
		}
		c.Ops = append(c.Ops, op)
	}
	return c
}

// spoil puts an odd number somewhere into a circuit.
func (n *noise) spoil(c *api.Circuit) {
	odd := n.odd()
	if len(c.Ops) == 0 || n.below(8) == 0 {
		*[]*int{&c.Qubits, &c.Bits}[n.below(2)] = odd
		return
	}
	op := &c.Ops[n.below(len(c.Ops))]
	switch n.below(7) {
	case 0:
		op.Kind = odd
	case 1:
		op.K = odd
	case 2:
		op.Q = odd
	case 3:
		op.Bit = odd
	case 4, 5:
		op.Ctl = append(slices.Clone(op.Ctl), odd)
	case 6:
		op.If = append(slices.Clone(op.If), odd)
	}
}

// spoilBytes changes, adds, leaves out or doubles bytes somewhere.
func (n *noise) spoilBytes(text string) string {
	for range 1 + n.below(3) {
		at := n.below(len(text) + 1)
		behind := text[min(at+1, len(text)):]
		switch n.below(5) {
		case 0:
			text = text[:at] + string([]byte{byte(n.below(256))}) + behind
		case 1:
			text = text[:at] + string([]byte{byte(n.below(17))}) + behind
		case 2:
			text = text[:at] + string([]byte{byte(n.below(20))}) + text[at:]
		case 3:
			text = text[:at] + behind
		case 4:
			text = text[:at] + text[at/2:]
		}
	}
	return text
}

// resealed is an image with the sum that it must have, whatever else it is.
func resealed(image string) string {
	ahead := image[:max(0, len(image)-4)]
	return ahead + wantedSum(ahead)
}
