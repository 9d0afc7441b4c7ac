// Package pauli has Paulis, and what gates make of them: see doc/11-tableau.md.
package pauli

import (
	"math/bits"
	"strings"
)

// letters are those of a qubit that is in neither set of a Pauli, in X, in Z, in both.
const letters = "IXZY"

// Pauli is a letter for each qubit, and a sign. Sets of qubits have bit q for qubit q.
// Paulis that do the same are equal.
type Pauli struct {
	X     uint16 // the qubits with an X or a Y
	Z     uint16 // the qubits with a Z or a Y
	Minus bool
}

// Set is the set of one qubit.
func Set(q int) uint16 { return 1 << q }

// Parse reads a Pauli of so many qubits; false, if the text is none.
func Parse(text string, qubits int) (Pauli, bool) {
	if len(text) != qubits+1 || text[0] != '+' && text[0] != '-' {
		return Pauli{}, false
	}
	p := Pauli{Minus: text[0] == '-'}
	for q := range qubits {
		letter := strings.IndexByte(letters, text[q+1])
		if letter < 0 {
			return Pauli{}, false
		}
		p.X |= uint16(letter&1) << q
		p.Z |= uint16(letter>>1) << q
	}
	return p, true
}

// Text is a Pauli of so many qubits as it is written.
func (p Pauli) Text(qubits int) string {
	text := []byte{'+'}
	if p.Minus {
		text[0] = '-'
	}
	for q := range qubits {
		text = append(text, letters[p.X>>q&1|p.Z>>q&1<<1])
	}
	return string(text)
}

// Commutes: do both together do the same, whichever of them is done first?
func (p Pauli) Commutes(other Pauli) bool {
	return bits.OnesCount16(p.X&other.Z^p.Z&other.X)%2 == 0
}

// Weight is on how many qubits the letter is not I.
func (p Pauli) Weight() int { return bits.OnesCount16(p.X | p.Z) }

// Letters is the product of two Paulis but for its sign, or for what it is turned by if
// they don't commute: it has none.
func (p Pauli) Letters(other Pauli) Pauli {
	return Pauli{X: p.X ^ other.X, Z: p.Z ^ other.Z}
}

// Times is the product of two Paulis that commute.
func (p Pauli) Times(other Pauli) Pauli {
	product, quarters := p.meet(other)
	return product.turnedIf(quarters&2 != 0)
}

// TimesTurned is the product of two Paulis that don't commute, turned by a quarter: of
// X and Z it is Y.
func (p Pauli) TimesTurned(other Pauli) Pauli {
	product, quarters := p.meet(other)
	return product.turnedIf((quarters+1)&2 != 0)
}

// meet is the product of two Paulis but for so many quarters of a turn. With each Y as
// a quarter of a turn beside a Z and then an X, all Xs of the product are brought behind
// all Zs: where a Z passes an X, the whole is turned by a half.
func (p Pauli) meet(other Pauli) (Pauli, int) {
	product := p.Letters(other).turnedIf(p.Minus != other.Minus)
	return product, p.ys() + other.ys() - product.ys() + 2*bits.OnesCount16(p.Z&other.X)
}

// ys is how many letters are Y.
func (p Pauli) ys() int { return bits.OnesCount16(p.X & p.Z) }

// turnedIf is the Pauli, with the other sign if so it is to be.
func (p Pauli) turnedIf(yes bool) Pauli {
	p.Minus = p.Minus != yes
	return p
}
