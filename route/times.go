package route

import "qloom/api"

// longest is the longest time that an operation may last.
const longest = 1000000

// checkTimes is the fault of the first time that is none.
func checkTimes(t api.Times) api.Fault {
	for at, time := range [...]int{t.One, t.Two, t.Turn, t.Look} {
		if time < 0 || time > longest {
			return api.Fault{Code: api.ErrRange, At: at}
		}
	}
	return api.Fault{}
}

// schedule tells when operations begin, and when the last is over. Of each qubit and
// bit only the last operation that touches it counts: those ahead of it are over
// when it begins.
func schedule(ops []api.Op, t api.Times) (begins []int, end int) {
	var over [api.MaxQubits + api.MaxBits]int
	for _, op := range ops {
		things := touched(op)
		begin := 0
		for _, thing := range things {
			begin = max(begin, over[thing])
		}
		done := begin + lasts(op, t)
		for _, thing := range things {
			over[thing] = done
		}
		begins = append(begins, begin)
		end = max(end, done)
	}
	return begins, end
}

// lasts is how long an operation lasts.
func lasts(op api.Op, t api.Times) int {
	switch op.Kind {
	case api.Phase, api.P:
		return t.Turn
	case api.Measure, api.Reset:
		return t.Look
	}
	if isControlled(op) {
		return t.Two
	}
	return t.One
}

// touched is what an operation touches: qubits by their numbers, bits by theirs
// behind those of all qubits that can be.
func touched(op api.Op) []int {
	things := append([]int(nil), op.Ctl...)
	if op.Kind != api.Phase {
		things = append(things, op.Q)
	}
	if op.Kind == api.Measure {
		things = append(things, api.MaxQubits+op.Bit)
	}
	for _, term := range op.If {
		things = append(things, api.MaxQubits+max(term, -term)-1)
	}
	return things
}
