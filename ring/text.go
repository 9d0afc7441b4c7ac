package ring

import (
	"strings"

	"qloom/api"
	"qloom/whole"
)

// Text is the number as Parse reads it.
func (a Num) Text() string {
	var out strings.Builder
	for i := range a.parts.length() {
		if i > 0 {
			out.WriteByte(',')
		}
		out.WriteString(a.parts[i].Text())
	}
	if a.down.Sign() != 0 {
		out.WriteByte('/')
		out.WriteString(a.down.Text())
	}
	return out.String()
}

// refusal is the fault that a reader gives up with.
type refusal api.Fault

// Parse reads a number.
func Parse(text string) (number Num, fault api.Fault) {
	defer func() {
		if cause := recover(); cause != nil {
			fault = faultOf(cause)
		}
	}()
	return read(text), api.Fault{}
}

// faultOf is the fault of a reader that gave up. Any other panic is a mistake
// in the program, which must not pass for an answer.
func faultOf(cause any) api.Fault {
	refused, ok := cause.(refusal)
	if !ok {
		panic(cause)
	}
	return api.Fault(refused)
}

// read goes through the text as a whole ahead of making numbers of it: a text
// that is none is refused as such, whatever else is wrong with it.
func read(text string) Num {
	in := reader{text: text}
	parts, down := in.sum()
	return makeNumber(parts, down)
}

// makeNumber makes a number of the texts of its parts and of its power.
func makeNumber(parts []string, down string) Num {
	var sum row
	for i, part := range parts {
		sum[i] = readWhole(part)
	}
	power := readWhole(down)
	if power.Cmp(whole.Of(api.MaxShift)) > 0 {
		panic(refusal{Code: api.ErrLong})
	}
	number := lowest(sum, power)
	if number.parts.length() != len(parts) || number.down.Cmp(power) != 0 {
		panic(refusal{Code: api.ErrForm})
	}
	return number
}

// readWhole reads a number of layer 1; the reader has found it to be one, so
// that it can only be too long.
func readWhole(text string) whole.Int {
	n, fault := whole.Parse(text)
	if fault.Code != 0 {
		panic(refusal(fault))
	}
	return n
}

// reader goes through a text, and gives up where it goes wrong.
type reader struct {
	text string
	at   int
}

// sum reads the whole text: the texts of its parts, and of the power below them.
func (in *reader) sum() (parts []string, down string) {
	parts = []string{in.number()}
	for len(parts) < len(row{}) && in.take(',') {
		parts = append(parts, in.number())
	}
	down = "0"
	if in.take('/') {
		down = in.positive()
	}
	if in.at < len(in.text) {
		in.giveUp()
	}
	return parts, down
}

// number reads a number of layer 1.
func (in *reader) number() string {
	start := in.at
	if !in.take('0') {
		in.take('-')
		in.positive()
	}
	return in.text[start:in.at]
}

// positive reads digits of which the first is 1 to 9.
func (in *reader) positive() string {
	start := in.at
	for in.digit() && in.text[start] != '0' {
		in.at++
	}
	if in.at == start {
		in.giveUp()
	}
	return in.text[start:in.at]
}

// digit: is a digit next?
func (in *reader) digit() bool {
	return in.at < len(in.text) && in.text[in.at] >= '0' && in.text[in.at] <= '9'
}

// take goes past a sign, if it is next.
func (in *reader) take(sign byte) bool {
	if in.at == len(in.text) || in.text[in.at] != sign {
		return false
	}
	in.at++
	return true
}

// giveUp refuses the text where the reader stands: all ahead of it could still become a number.
func (in *reader) giveUp() {
	panic(refusal{Code: api.ErrText, At: in.at})
}
