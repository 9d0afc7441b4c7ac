package mach

import (
	"strings"

	"qloom/api"
)

// source is what the lines of a text are, each of the right form.
type source struct {
	bounds
	marks []mark
	steps []step
}

// mark is a label's line.
type mark struct {
	label string
	place int // the instruction that comes next
	line  int
}

// step is an instruction's line.
type step struct {
	number   int
	operands []string // as they are written
	line     int
}

// assemble is the program of a text. All lines are read ahead of what they say
// being looked at: a line of no form is told ahead of all else, and labels may
// stand behind those that go to them.
func assemble(text string) program {
	if len(text) > api.MaxText {
		refuse(api.ErrLong, 0)
	}
	from := readLines(text)
	needQubits(from.qubits, 0)
	needBits(from.bits, 0)
	places := from.places()
	p := from.program()
	if p.count > mostWide || p.size() > api.MaxImage {
		refuse(api.ErrMany, 0)
	}
	for i, one := range from.steps {
		p.list[i] = one.filled(p.bounds, places)
	}
	return p
}

// places are the instructions that the labels mean.
func (s source) places() map[string]int {
	places := map[string]int{}
	for _, one := range s.marks {
		if _, twice := places[one.label]; twice {
			refuse(api.ErrTwice, one.line)
		}
		places[one.label] = one.place
	}
	return places
}

// program has all instructions, still without their operands.
func (s source) program() program {
	p := program{bounds: s.bounds}
	for _, one := range s.steps {
		p.list = append(p.list, instruction{number: one.number})
	}
	p.count = len(p.list)
	return p
}

// filled is the step's instruction with its operands.
func (s step) filled(b bounds, places map[string]int) instruction {
	one := instruction{number: s.number}
	for i, operand := range shapes[s.number].operands {
		if operand == 'a' {
			place, ok := places[s.operands[i]]
			if !ok {
				refuse(api.ErrName, s.line)
			}
			one.operands[i] = place
		} else {
			one.operands[i] = valueOf(s.operands[i])
		}
		b.need(one, i, s.line)
	}
	return one
}

// readLines reads all lines, by their form alone. Behind the last line feed nothing
// may stand, and there must be one.
func readLines(text string) source {
	var out source
	lines := strings.Split(text, lineEnd)
	last := len(lines) - 1
	for line, body := range lines[:last] {
		if !out.add(body, line) {
			refuse(api.ErrText, line)
		}
	}
	if last == 0 || lines[last] != "" {
		refuse(api.ErrText, last)
	}
	return out
}

// add adds a line; false, if it has no form.
func (s *source) add(body string, line int) bool {
	words := strings.Split(body, blank)
	switch {
	case line == 0:
		return s.addHead(words)
	case isMark(words):
		label := strings.TrimSuffix(words[0], labelEnd)
		s.marks = append(s.marks, mark{label: label, place: len(s.steps), line: line})
	case isStep(words):
		s.steps = append(s.steps, step{number: numberOf(words[0]), operands: words[1:], line: line})
	default:
		return false
	}
	return true
}

// addHead takes the words of the first line.
func (s *source) addHead(words []string) bool {
	if len(words) != 4 || words[0] != wordQubits || words[2] != wordBits || !isNumber(words[1]) || !isNumber(words[3]) {
		return false
	}
	s.qubits, s.bits = valueOf(words[1]), valueOf(words[3])
	return true
}
