package mach

import "qloom/api"

// The instructions, by their numbers.
const (
	halt = iota
	phase
	gateX
	gateH
	gateP
	gateCX
	measure
	reset
	jump
	ifOne
	ifNought
	set
	xor
	load
	loop
)

// shape is how an instruction is written: its word, and a letter for each of its
// operands, as the document has them.
type shape struct {
	word     string
	operands string
}

// shapes are those of all instructions, by their numbers.
var shapes = [...]shape{
	halt:     {"halt", ""},
	phase:    {"phase", "K"},
	gateX:    {"x", "q"},
	gateH:    {"h", "q"},
	gateP:    {"p", "Kq"},
	gateCX:   {"cx", "qq"},
	measure:  {"measure", "qb"},
	reset:    {"reset", "q"},
	jump:     {"jump", "a"},
	ifOne:    {"if1", "ba"},
	ifNought: {"if0", "ba"},
	set:      {"set", "bv"},
	xor:      {"xor", "bb"},
	load:     {"load", "rn"},
	loop:     {"loop", "ra"},
}

// Bounds of operands.
const (
	turns     = 16    // how many turns by a sixteenth are a whole one
	registers = 4     // how many there are
	mostWide  = 65535 // the greatest number of two bytes
)

// instruction is one of a program.
type instruction struct {
	number   int
	operands [2]int // in their order; those that it doesn't have are 0
}

// bounds are the numbers that operands are held to.
type bounds struct {
	qubits int
	bits   int
	count  int // of instructions
}

// program is what an image holds.
type program struct {
	bounds
	list []instruction
}

// width is how many bytes an operand has.
func width(operand rune) int {
	if operand == 'a' || operand == 'n' {
		return 2
	}
	return 1
}

// size is how many bytes the instruction has.
func (one instruction) size() int {
	bytes := 1
	for _, operand := range shapes[one.number].operands {
		bytes += width(operand)
	}
	return bytes
}

// size is how many bytes the program's image has.
func (p program) size() int {
	bytes := len(magic) + headBytes + sumBytes
	for _, one := range p.list {
		bytes += one.size()
	}
	return bytes
}

// needQubits refuses a number of qubits that no image has.
func needQubits(n, at int) {
	if n < 1 || n > api.MaxQubits {
		refuse(api.ErrQubits, at)
	}
}

// needBits refuses a number of bits that no image has.
func needBits(n, at int) {
	if n > api.MaxBits {
		refuse(api.ErrBits, at)
	}
}

// need refuses the operand at place i of an instruction, if there is no such
// thing. Those ahead of it must be right.
func (b bounds) need(one instruction, i, at int) {
	most, code := b.most(shapes[one.number].operands[i])
	if one.operands[i] > most {
		refuse(code, at)
	}
	if one.number == gateCX && i == 1 && one.operands[0] == one.operands[1] {
		refuse(api.ErrClone, at)
	}
}

// most is the greatest number that an operand can be, and the code of one above it.
func (b bounds) most(operand byte) (int, int) {
	switch operand {
	case 'K':
		return turns - 1, api.ErrAngle
	case 'q':
		return b.qubits - 1, api.ErrQubit
	case 'b':
		return b.bits - 1, api.ErrBit
	case 'r':
		return registers - 1, api.ErrVar
	case 'v':
		return 1, api.ErrRange
	case 'a':
		return b.count, api.ErrRange
	}
	return mostWide, api.ErrRange
}
