package circ

import "qloom/api"

// Count tells a circuit's numbers.
func Count(c api.Circuit) (api.Tally, api.Fault) {
	if fault := Check(c); fault.Code != 0 {
		return api.Tally{}, fault
	}
	tally := api.Tally{Ops: len(c.Ops), Levels: levels(c.Ops)}
	for _, op := range c.Ops {
		switch {
		case op.Kind == api.H:
			tally.Fork++
		case op.Kind == api.P && op.K%4 != 0:
			tally.Fine++
		case meets(op):
			tally.Meets++
		}
		if len(op.Ctl) > 0 {
			tally.Wide++
		}
	}
	return tally, api.Fault{}
}

// levels is the greatest level of the operations. Of each qubit and bit only
// the last operation that touches it counts: those ahead of it have lower levels.
func levels(ops []api.Op) int {
	var last [api.MaxQubits + api.MaxBits]int
	greatest := 0
	for _, op := range ops {
		things := touched(op)
		level := 1
		for _, thing := range things {
			level = max(level, last[thing]+1)
		}
		for _, thing := range things {
			last[thing] = level
		}
		greatest = max(greatest, level)
	}
	return greatest
}

// touched is what the operation touches: qubits by their numbers, bits by
// theirs behind those of all qubits that can be.
func touched(op api.Op) []int {
	things := copyList(op.Ctl)
	uses := shapes[op.Kind]
	if uses.qubit {
		things = append(things, op.Q)
	}
	if uses.bit {
		things = append(things, api.MaxQubits+op.Bit)
	}
	for _, term := range op.If {
		bit, _ := condition(term)
		things = append(things, api.MaxQubits+bit)
	}
	return things
}

// condition is the bit that a term names, and what it must be.
func condition(term int) (bit int, one bool) {
	if term < 0 {
		return -term - 1, false
	}
	return term - 1, true
}
