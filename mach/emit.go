package mach

import "qloom/api"

// basic is the fault of the first operation whose controls the machine cannot do.
// The circuit must have no fault.
func basic(ops []api.Op) api.Fault {
	for at, op := range ops {
		if len(op.Ctl) > 1 || len(op.Ctl) == 1 && op.Kind != api.X {
			return api.Fault{Code: api.ErrControl, At: at}
		}
	}
	return api.Fault{}
}

// emit is a program that does what a circuit of basic gates does. Ahead of each
// operation stands for each of its conditions an instruction that goes past it.
func emit(c api.Circuit) program {
	p := program{bounds: bounds{qubits: c.Qubits, bits: c.Bits}}
	for _, op := range c.Ops {
		past := len(p.list) + len(op.If) + 1
		for _, term := range op.If {
			p.list = append(p.list, unless(term, past))
		}
		p.list = append(p.list, instructionOf(op))
	}
	p.count = len(p.list)
	return p
}

// unless goes to an instruction where the condition does not hold.
func unless(term, to int) instruction {
	if term > 0 {
		return instruction{ifNought, [2]int{term - 1, to}}
	}
	return instruction{ifOne, [2]int{-term - 1, to}}
}

// instructionOf is the instruction that does an operation, whatever its conditions are.
func instructionOf(op api.Op) instruction {
	switch op.Kind {
	case api.Phase:
		return instruction{phase, [2]int{op.K}}
	case api.X:
		if len(op.Ctl) == 1 {
			return instruction{gateCX, [2]int{op.Ctl[0], op.Q}}
		}
		return instruction{gateX, [2]int{op.Q}}
	case api.H:
		return instruction{gateH, [2]int{op.Q}}
	case api.P:
		return instruction{gateP, [2]int{op.K, op.Q}}
	case api.Measure:
		return instruction{measure, [2]int{op.Q, op.Bit}}
	}
	return instruction{reset, [2]int{op.Q}}
}

// op is the operation that an instruction does, which must be one that does one.
func (one instruction) op() api.Op {
	first, second := one.operands[0], one.operands[1]
	switch one.number {
	case phase:
		return api.Op{Kind: api.Phase, K: first}
	case gateX:
		return api.Op{Kind: api.X, Q: first}
	case gateH:
		return api.Op{Kind: api.H, Q: first}
	case gateP:
		return api.Op{Kind: api.P, K: first, Q: second}
	case gateCX:
		return api.Op{Kind: api.X, Ctl: []int{first}, Q: second}
	case measure:
		return api.Op{Kind: api.Measure, Q: first, Bit: second}
	}
	return api.Op{Kind: api.Reset, Q: first}
}
