package pauli

import (
	"slices"

	"qloom/api"
)

// Gate is what a gate makes of Paulis: of one ahead of the gate the one that, done
// behind it, does the same.
type Gate func(Pauli) Pauli

// GateOf is what an operation makes of Paulis, if it is a stabilizer operation and
// neither a measurement nor a reset. Its conditions are not looked at.
func GateOf(op api.Op) Gate {
	q := Set(op.Q)
	switch op.Kind {
	case api.X:
		if len(op.Ctl) == 0 {
			return flip(q)
		}
		return flipOn(q, Set(op.Ctl[0]))
	case api.H:
		return fork(q)
	case api.P:
		if len(op.Ctl) == 0 {
			return row(slices.Repeat([]Gate{quarter(q)}, op.K/4)...)
		}
		half := row(fork(q), flipOn(q, Set(op.Ctl[0])), fork(q))
		return row(slices.Repeat([]Gate{half}, op.K/8)...)
	}
	return row() // a Phase turns all alike, ahead of a Pauli and behind it
}

// row is gates done one after the other.
func row(gates ...Gate) Gate {
	return func(p Pauli) Pauli {
		for _, gate := range gates {
			p = gate(p)
		}
		return p
	}
}

// flip is an X.
func flip(q uint16) Gate {
	return func(p Pauli) Pauli { return p.turnedIf(p.Z&q != 0) }
}

// fork is an H: X and Z are exchanged, and with them the order of both in Y.
func fork(q uint16) Gate {
	return func(p Pauli) Pauli {
		exchanged := (p.X ^ p.Z) & q
		p = p.turnedIf(p.X&p.Z&q != 0)
		p.X ^= exchanged
		p.Z ^= exchanged
		return p
	}
}

// quarter is a P by 4: X becomes Y, and Y becomes -X.
func quarter(q uint16) Gate {
	return func(p Pauli) Pauli {
		p = p.turnedIf(p.X&p.Z&q != 0)
		p.Z ^= p.X & q
		return p
	}
}

// flipOn is an X with a control: an X at the control comes to q, too, and a Z at q to
// the control. Where both come, letters meet that don't commute: XZ becomes -YY, and
// YY -XZ, but XY becomes YZ, and YZ XY.
func flipOn(q, control uint16) Gate {
	return func(p Pauli) Pauli {
		down, up := p.X&control != 0, p.Z&q != 0
		alike := (p.X&q != 0) == (p.Z&control != 0)
		p = p.turnedIf(down && up && alike)
		if down {
			p.X ^= q
		}
		if up {
			p.Z ^= control
		}
		return p
	}
}
