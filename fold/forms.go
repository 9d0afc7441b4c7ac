package fold

import (
	"bytes"
	"slices"

	"qloom/api"
)

// form is a sum modulo 2 of variables and perhaps 1, as a row of bits: bit 0 stands
// for 1, each other bit for a variable. Its last byte is not 0: so each sum is just
// one form.
type form string

// one is the form that is always 1.
const one form = "\x01"

// single is the form of what a bit stands for.
func single(bit int) form {
	row := make([]byte, bit/8+1)
	row[bit/8] = 1 << (bit % 8)
	return form(row)
}

// sum is the sum of two forms.
func sum(a, b form) form {
	if len(a) < len(b) {
		a, b = b, a
	}
	row := []byte(a)
	for i := range len(b) {
		row[i] ^= b[i]
	}
	return form(bytes.TrimRight(row, "\x00"))
}

// hasOne: does 1 stand in the form?
func (f form) hasOne() bool { return f != "" && f[0]&1 == 1 }

// factors are the forms of a product, in order, and empty ones behind them.
type factors [api.MaxQubits]form

// follower follows the qubits through a circuit.
type follower struct {
	forms    []form          // what each qubit is
	bits     int             // how many bits stand for something
	products map[factors]int // the bits that stand for products of forms
}

// follow begins at a circuit's start, where each qubit is a variable.
func follow(qubits int) *follower {
	f := &follower{bits: 1, products: map[factors]int{}}
	for range qubits {
		f.forms = append(f.forms, single(f.next()))
	}
	return f
}

// next is a bit that stands for nothing yet.
func (f *follower) next() int {
	f.bits++
	return f.bits - 1
}

// pass follows the qubits through a gate.
func (f *follower) pass(g gate) {
	switch g.kind {
	case api.X:
		f.forms[g.q] = sum(f.forms[g.q], f.product(g.reads))
	case api.H:
		f.forms[g.q] = single(f.next())
	}
}

// product is the form of the product of what some qubits are. A product of several
// forms is a variable, the same wherever these forms meet.
func (f *follower) product(qubits uint16) form {
	var met []form
	for q, is := range f.forms {
		if qubits>>q&1 == 1 {
			met = append(met, is)
		}
	}
	switch len(met) {
	case 0:
		return one
	case 1:
		return met[0]
	}
	slices.Sort(met)
	var key factors
	copy(key[:], met)
	if f.products[key] == 0 {
		f.products[key] = f.next()
	}
	return single(f.products[key])
}
