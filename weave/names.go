package weave

import "qloom/api"

// Kinds of what a name stands for.
const (
	aNumber = iota
	aGate
	someQubits // a register, or a gate's wire
	someBits
)

// thing is what a name stands for.
type thing struct {
	kind   int
	number int
	gate   *gate
	span
}

// isRow: is it a register, or a wire that holds as many qubits as one?
func (t thing) isRow() bool { return (t.kind == someQubits || t.kind == someBits) && !t.alone }

// find is what a name stands for, if it is there. In a gate's body the program's
// registers are not.
func (w *weaver) find(name string) (thing, bool) {
	if t, there := w.hiding[name]; there {
		return t, true
	}
	t, there := w.program[name]
	return t, there && !(w.inGate && t.isRow())
}

// need is what a name stands for, which must be there.
func (w *weaver) need(name string, at int) thing {
	t, there := w.find(name)
	if !there {
		refuse(api.ErrName, at)
	}
	return t
}

// item works one of the program's items through.
func (w *weaver) item(n api.Node) {
	switch n.Kind {
	case api.NQubit:
		w.name(n, w.register)
	case api.NBit:
		w.name(n, w.bitRegister)
	case api.NConst:
		w.name(n, w.constant)
	case api.NGate:
		w.name(n, ownGate)
	default:
		w.statement(n)
	}
}

// name lays a name down; it is there only behind what it stands for.
func (w *weaver) name(n api.Node, meaning func(api.Node) thing) {
	if _, there := w.program[n.Name]; there {
		refuse(api.ErrTwice, n.At)
	}
	w.program[n.Name] = meaning(n)
}

func (w *weaver) constant(n api.Node) thing {
	return thing{kind: aNumber, number: w.number(kid(n, 0))}
}

func (w *weaver) register(n api.Node) thing {
	s := w.lay(n, w.qubits, api.MaxWires, api.ErrQubits)
	w.qubits += s.count
	return thing{kind: someQubits, span: s}
}

func (w *weaver) bitRegister(n api.Node) thing {
	s := w.lay(n, w.bits, api.MaxBits, api.ErrBits)
	w.bits += s.count
	return thing{kind: someBits, span: s}
}

// lay is a register's span behind those that are there; beyond most of them it is
// refused with the code.
func (w *weaver) lay(n api.Node, there, most, code int) span {
	size := kid(n, 0)
	count := w.number(size)
	switch {
	case count < 1:
		refuse(api.ErrRange, size.At)
	case count > most-there:
		refuse(code, n.At)
	}
	return span{first: there, count: count}
}
