package mach

import (
	"qloom/api"
	"qloom/wave"
)

// machine is a run that is under way. Where it goes hangs on bits, registers and
// the tape alone: amplitudes are reckoned when it is over, so that a run that is
// refused costs nothing.
type machine struct {
	list      []instruction
	at        int // the one that comes next
	qubits    int
	bits      []int
	registers [registers]int
	tape      []int // handed in: only read
	used      int   // outcomes
	fuel      int
	done      int // instructions
	deeds     []deed
}

// deed is an operation that was done, with its outcome, if it took one.
type deed struct {
	op      api.Op
	outcome int
}

// start is a run that has done nothing yet.
func start(p program, in int, tape []int, fuel int) *machine {
	if in < 0 || in >= 1<<p.qubits {
		refuse(api.ErrInput, 0)
	}
	if fuel < 0 || fuel > api.MaxFuel {
		refuse(api.ErrRange, 0)
	}
	return &machine{list: p.list, qubits: p.qubits, bits: make([]int, p.bits), tape: tape, fuel: fuel}
}

// run does instructions till all is over.
func (m *machine) run() {
	for m.at < len(m.list) {
		if m.done == m.fuel {
			refuse(api.ErrFuel, m.at)
		}
		m.done++
		m.at = m.after(m.list[m.at])
	}
}

// after does the instruction that the machine stands at, and tells where it goes on.
func (m *machine) after(one instruction) int {
	first, second := one.operands[0], one.operands[1]
	next := m.at + 1
	switch one.number {
	case halt:
		return len(m.list)
	case jump:
		return first
	case ifOne:
		if m.bits[first] == 1 {
			return second
		}
	case ifNought:
		if m.bits[first] == 0 {
			return second
		}
	case set:
		m.bits[first] = second
	case xor:
		m.bits[first] ^= m.bits[second]
	case load:
		m.registers[first] = second
	case loop:
		if m.registers[first] > 0 {
			m.registers[first]--
			return second
		}
	default:
		m.do(one.op())
	}
	return next
}

// do keeps an operation for the end, with its outcome.
func (m *machine) do(op api.Op) {
	now := deed{op: op}
	if asks(op) {
		now.outcome = m.outcome()
	}
	if op.Kind == api.Measure {
		m.bits[op.Bit] = now.outcome
	}
	m.deeds = append(m.deeds, now)
}

// asks: does the operation take an outcome from the tape?
func asks(op api.Op) bool { return op.Kind == api.Measure || op.Kind == api.Reset }

// outcome takes the next outcome from the tape.
func (m *machine) outcome() int {
	if m.used == len(m.tape) {
		refuse(api.ErrTape, m.at)
	}
	outcome := m.tape[m.used]
	if outcome != 0 && outcome != 1 {
		refuse(api.ErrOutcome, m.at)
	}
	m.used++
	return outcome
}

// left is what a run that is over leaves of basis state in.
func (m *machine) left(in int) api.Run {
	w := wave.Basis(m.qubits, in)
	for _, one := range m.deeds {
		if asks(one.op) {
			w.Take(one.op, one.outcome)
		} else {
			w.Do(one.op)
		}
	}
	shot := api.Shot{Amps: w.Texts(), Bits: m.bits, Used: m.used}
	return api.Run{Shot: shot, Steps: m.done}
}
