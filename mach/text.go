package mach

import (
	"strconv"
	"strings"
)

// Words and signs of a text, beside the words of the instructions.
const (
	wordQubits = "qubits"
	wordBits   = "bits"
	blank      = " "
	labelEnd   = ":"
	lineEnd    = "\n"
)

// text is the program as it is written.
func (p program) text() string {
	labels := p.labels()
	var out strings.Builder
	writeLine(&out, wordQubits, strconv.Itoa(p.qubits), wordBits, strconv.Itoa(p.bits))
	for at, one := range p.list {
		writeLabel(&out, labels[at])
		writeLine(&out, one.words(labels)...)
	}
	writeLabel(&out, labels[p.count])
	return out.String()
}

// labels are those of all instructions and of the end: "", where nothing goes.
func (p program) labels() []string {
	met := make([]bool, p.count+1)
	for _, one := range p.list {
		for i, operand := range shapes[one.number].operands {
			if operand == 'a' {
				met[one.operands[i]] = true
			}
		}
	}
	labels := make([]string, p.count+1)
	labelled := 0
	for at := range labels {
		if met[at] {
			labels[at] = "L" + strconv.Itoa(labelled)
			labelled++
		}
	}
	return labels
}

// words are what stands on the instruction's line.
func (one instruction) words(labels []string) []string {
	words := []string{shapes[one.number].word}
	for i, operand := range shapes[one.number].operands {
		if operand == 'a' {
			words = append(words, labels[one.operands[i]])
		} else {
			words = append(words, strconv.Itoa(one.operands[i]))
		}
	}
	return words
}

// writeLabel writes a label's line, if there is a label.
func writeLabel(out *strings.Builder, label string) {
	if label != "" {
		writeLine(out, label+labelEnd)
	}
}

// writeLine writes a line of words with a blank between.
func writeLine(out *strings.Builder, words ...string) {
	out.WriteString(strings.Join(words, blank))
	out.WriteString(lineEnd)
}
