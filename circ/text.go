package circ

import (
	"strconv"
	"strings"

	"qloom/api"
)

// Words between the numbers of a circuit's text.
const (
	wordQubits = "qubits"
	wordBits   = " bits"
	wordOn     = " on"
	wordTo     = " to"
	wordIf     = " if"
	lineEnd    = "\n"
)

// maxDigits is how many digits a number of a text may have.
const maxDigits = 9

// Print is the circuit as Parse reads it.
func Print(c api.Circuit) (string, api.Fault) {
	if fault := Check(c); fault.Code != 0 {
		return "", fault
	}
	var out strings.Builder
	out.WriteString(wordQubits)
	writeNumber(&out, c.Qubits)
	out.WriteString(wordBits)
	writeNumber(&out, c.Bits)
	out.WriteString(lineEnd)
	for _, op := range c.Ops {
		writeOp(&out, op)
		out.WriteString(lineEnd)
	}
	return out.String(), api.Fault{}
}

// writeOp writes what stands on an operation's line.
func writeOp(out *strings.Builder, op api.Op) {
	uses := shapes[op.Kind]
	out.WriteString(uses.word)
	if uses.turn {
		writeNumber(out, op.K)
	}
	if uses.qubit {
		writeNumber(out, op.Q)
	}
	if len(op.Ctl) > 0 {
		out.WriteString(wordOn)
	}
	for _, control := range op.Ctl {
		writeNumber(out, control)
	}
	if uses.bit {
		out.WriteString(wordTo)
		writeNumber(out, op.Bit)
	}
	if len(op.If) > 0 {
		out.WriteString(wordIf)
	}
	for _, term := range op.If {
		writeCondition(out, term)
	}
}

// writeNumber writes a number with a blank ahead of it.
func writeNumber(out *strings.Builder, n int) {
	out.WriteByte(' ')
	out.WriteString(strconv.Itoa(n))
}

// writeCondition writes a condition with a blank ahead of it.
func writeCondition(out *strings.Builder, term int) {
	bit, one := condition(term)
	if one {
		writeNumber(out, bit)
		return
	}
	out.WriteString(" !")
	out.WriteString(strconv.Itoa(bit))
}

// refusal is the fault that a reader gives up with.
type refusal api.Fault

// Parse reads a circuit.
func Parse(text string) (circuit api.Circuit, fault api.Fault) {
	if len(text) > api.MaxText {
		return api.Circuit{}, api.Fault{Code: api.ErrLong}
	}
	defer func() {
		if cause := recover(); cause != nil {
			fault = faultOf(cause)
		}
	}()
	in := reader{text: text}
	return checked(in.circuit())
}

// faultOf is the fault of a reader that gave up. Any other panic is a mistake
// in the program, which must not pass for an answer.
func faultOf(cause any) api.Fault {
	refused, ok := cause.(refusal)
	if !ok {
		panic(cause)
	}
	return api.Fault(refused)
}

// checked is the circuit, or its fault.
func checked(c api.Circuit) (api.Circuit, api.Fault) {
	if fault := Check(c); fault.Code != 0 {
		return api.Circuit{}, fault
	}
	return c, api.Fault{}
}

// reader goes through a text, and gives up on the first line that goes wrong.
// It looks at the form alone, so that a bad line is told ahead of bad numbers.
type reader struct {
	text string
	at   int
	line int
}

// circuit reads the whole text.
func (in *reader) circuit() api.Circuit {
	var c api.Circuit
	in.need(wordQubits)
	c.Qubits = in.number()
	in.need(wordBits)
	c.Bits = in.number()
	in.endLine()
	for in.at < len(in.text) {
		c.Ops = append(c.Ops, in.op())
		in.endLine()
	}
	return c
}

// op reads what stands on an operation's line.
func (in *reader) op() api.Op {
	op := api.Op{Kind: in.kind()}
	uses := shapes[op.Kind]
	if uses.turn {
		op.K = in.number()
	}
	if uses.qubit {
		op.Q = in.number()
	}
	if uses.controls && in.take(wordOn) {
		op.Ctl = in.controls()
	}
	if uses.bit {
		in.need(wordTo)
		op.Bit = in.number()
	}
	if in.take(wordIf) {
		op.If = in.conditions()
	}
	return op
}

// kind reads a kind's word. As one may begin with another, the blank behind it
// is looked for, too: each kind has a number there.
func (in *reader) kind() int {
	for kind := api.Phase; kind <= api.Reset; kind++ {
		word := shapes[kind].word
		if in.sees(word + " ") {
			in.need(word)
			return kind
		}
	}
	in.giveUp()
	return 0
}

// controls reads one number or more.
func (in *reader) controls() []int {
	list := []int{in.number()}
	for !in.sees(lineEnd) && !in.sees(wordIf) {
		list = append(list, in.number())
	}
	return list
}

// conditions reads one condition or more: nothing else comes on that line.
func (in *reader) conditions() []int {
	list := []int{in.condition()}
	for !in.sees(lineEnd) {
		list = append(list, in.condition())
	}
	return list
}

// condition reads a condition with a blank ahead of it.
func (in *reader) condition() int {
	in.need(" ")
	if in.take("!") {
		return -(in.digits() + 1)
	}
	return in.digits() + 1
}

// number reads a number with a blank ahead of it.
func (in *reader) number() int {
	in.need(" ")
	return in.digits()
}

// digits reads a number. Behind a leading nought it stops: whatever comes
// behind a number, no digit may.
func (in *reader) digits() int {
	start, n := in.at, 0
	for in.digit() && (in.at == start || n > 0) {
		n = 10*n + int(in.text[in.at]-'0')
		in.at++
		if in.at-start > maxDigits {
			in.giveUp()
		}
	}
	if in.at == start {
		in.giveUp()
	}
	return n
}

// digit: is a digit next?
func (in *reader) digit() bool {
	return in.at < len(in.text) && in.text[in.at] >= '0' && in.text[in.at] <= '9'
}

// endLine goes to the next line.
func (in *reader) endLine() {
	in.need(lineEnd)
	in.line++
}

// need goes past what must come next.
func (in *reader) need(word string) {
	if !in.take(word) {
		in.giveUp()
	}
}

// take goes past the word, if it comes next.
func (in *reader) take(word string) bool {
	if !in.sees(word) {
		return false
	}
	in.at += len(word)
	return true
}

// sees: does the word come next?
func (in *reader) sees(word string) bool { return strings.HasPrefix(in.text[in.at:], word) }

// giveUp refuses the line on which the reader stands.
func (in *reader) giveUp() {
	panic(refusal{Code: api.ErrText, At: in.line})
}
