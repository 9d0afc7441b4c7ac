package circ

import (
	"slices"

	"qloom/api"
)

// copyList is new memory with the same numbers.
func copyList(list []int) []int { return append([]int(nil), list...) }

// copyOp is the operation with lists of its own.
func copyOp(op api.Op) api.Op {
	op.Ctl, op.If = copyList(op.Ctl), copyList(op.If)
	return op
}

// with is a circuit of c's qubits and bits that has copies of those operations.
func with(c api.Circuit, ops []api.Op) api.Circuit {
	out := api.Circuit{Qubits: c.Qubits, Bits: c.Bits}
	for _, op := range ops {
		out.Ops = append(out.Ops, copyOp(op))
	}
	return out
}

// Inverse undoes what c does.
func Inverse(c api.Circuit) (api.Circuit, api.Fault) {
	if fault := Pure(c); fault.Code != 0 {
		return api.Circuit{}, fault
	}
	out := with(c, c.Ops)
	slices.Reverse(out.Ops)
	for i, op := range out.Ops {
		out.Ops[i].K = opposite(op.K)
	}
	return out, api.Fault{}
}

// opposite is the turn that takes back one by k. Where K is not used it is 0, and stays so.
func opposite(k int) int { return (turns - k) % turns }

// Control is c done where qubit q is 1.
func Control(c api.Circuit, q int) (api.Circuit, api.Fault) {
	if fault := Check(c); fault.Code != 0 {
		return api.Circuit{}, fault
	}
	if !isBelow(q, c.Qubits) {
		return api.Circuit{}, api.Fault{Code: api.ErrQubit}
	}
	if fault := Pure(c); fault.Code != 0 {
		return api.Circuit{}, fault
	}
	for at, op := range c.Ops {
		if usesQubit(op, q) {
			return api.Circuit{}, api.Fault{Code: api.ErrClone, At: at}
		}
	}
	out := with(c, c.Ops)
	for i, op := range out.Ops {
		out.Ops[i] = control(op, q)
	}
	return out, api.Fault{}
}

// usesQubit: is q the operation's qubit or one of its controls?
func usesQubit(op api.Op, q int) bool {
	return shapes[op.Kind].qubit && op.Q == q || slices.Contains(op.Ctl, q)
}

// control is the gate with q as its first control. A Phase that is done where q
// is 1 turns just where a P on q does.
func control(op api.Op, q int) api.Op {
	if op.Kind == api.Phase {
		return api.Op{Kind: api.P, K: op.K, Q: q}
	}
	op.Ctl = append([]int{q}, op.Ctl...)
	return op
}

// Power is c done n times, or undone -n times.
func Power(c api.Circuit, n int) (api.Circuit, api.Fault) {
	if fault := Pure(c); fault.Code != 0 {
		return api.Circuit{}, fault
	}
	once, times := c, uint(n)
	if n < 0 {
		once, _ = Inverse(c)
		times = -times // no int holds the opposite of the least one
	}
	length := uint(len(c.Ops))
	if length > 0 && times > api.MaxOps/length {
		return api.Circuit{}, api.Fault{Code: api.ErrLong}
	}
	// What has no operations is not gone through so many times: that would not end.
	var ops []api.Op
	for uint(len(ops)) < length*times {
		ops = append(ops, once.Ops...)
	}
	return with(c, ops), api.Fault{}
}

// Then is a, and b behind it.
func Then(a, b api.Circuit) (api.Circuit, api.Fault) {
	for _, c := range []api.Circuit{a, b} {
		if fault := Check(c); fault.Code != 0 {
			return api.Circuit{}, fault
		}
	}
	switch {
	case a.Qubits != b.Qubits || a.Bits != b.Bits:
		return api.Circuit{}, api.Fault{Code: api.ErrShape}
	case len(a.Ops)+len(b.Ops) > api.MaxOps:
		return api.Circuit{}, api.Fault{Code: api.ErrLong}
	}
	return with(a, slices.Concat(a.Ops, b.Ops)), api.Fault{}
}

// Move gives qubit i the number to[i], among so many qubits.
func Move(c api.Circuit, to []int, qubits int) (api.Circuit, api.Fault) {
	if fault := Check(c); fault.Code != 0 {
		return api.Circuit{}, fault
	}
	switch {
	case !countsQubits(qubits):
		return api.Circuit{}, api.Fault{Code: api.ErrQubits}
	case len(to) != c.Qubits:
		return api.Circuit{}, api.Fault{Code: api.ErrMap}
	}
	for i, q := range to {
		if !isBelow(q, qubits) || slices.Contains(to[:i], q) {
			return api.Circuit{}, api.Fault{Code: api.ErrMap, At: i}
		}
	}
	out := with(c, c.Ops)
	out.Qubits = qubits
	for i, op := range out.Ops {
		out.Ops[i] = move(op, to)
	}
	return out, api.Fault{}
}

// move is the operation on the qubits' new numbers; its controls are written
// over, so they must be a copy. A Phase has no qubit: its Q stays 0.
func move(op api.Op, to []int) api.Op {
	if shapes[op.Kind].qubit {
		op.Q = to[op.Q]
	}
	for i, q := range op.Ctl {
		op.Ctl[i] = to[q]
	}
	return op
}
