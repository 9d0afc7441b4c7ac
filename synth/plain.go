package synth

import (
	"qloom/api"
	"qloom/pauli"
)

// plain is a plain gate: what it makes of X and of Z. Plain gates that do the same, but
// for a turn of the whole, are equal.
type plain struct{ x, z pauli.Pauli }

// idle does nothing.
func idle() plain {
	return plain{x: pauli.Pauli{X: 1}, z: pauli.Pauli{Z: 1}}
}

// plainOf is the plain gate that an operation on the one qubit is.
func plainOf(op api.Op) plain {
	gate, of := pauli.GateOf(op), idle()
	return plain{x: gate(of.x), z: gate(of.z)}
}

// fork is H.
func fork() plain { return plainOf(api.Op{Kind: api.H}) }

// quarter is S.
func quarter() plain { return plainOf(api.Op{Kind: api.P, K: 4}) }

// times is the product of two plain gates, read as matrices.
func (a plain) times(b plain) plain {
	return plain{x: a.image(b.x), z: a.image(b.z)}
}

// image is what the gate makes of X, Y or Z, with its sign.
func (a plain) image(p pauli.Pauli) pauli.Pauli {
	out := a.x
	switch {
	case p.X == 0:
		out = a.z
	case p.Z != 0:
		out = a.x.TimesTurned(a.z)
	}
	out.Minus = out.Minus != p.Minus
	return out
}

// undone is the gate that undoes this one: the power of it ahead of the one that does
// nothing.
func (a plain) undone() plain {
	power := idle()
	for next := a; next != idle(); next = next.times(a) {
		power = next
	}
	return power
}
