package weave

import (
	"iter"

	"qloom/api"
)

// span is qubits or bits: one alone, or a row of them, however few they are.
type span struct {
	first int
	count int
	alone bool
}

// all ranges over the numbers of a span's qubits or bits.
func (s span) all() iter.Seq[int] {
	return func(yield func(int) bool) {
		for i := range s.count {
			if !yield(s.first + i) {
				return
			}
		}
	}
}

// reference is the qubits or bits, as the kind says, that a reference names.
func (w *weaver) reference(n api.Node, kind int) span {
	t := w.need(n.Name, n.At)
	if t.kind != kind || t.alone && len(n.Kids) > 0 {
		refuse(api.ErrType, n.At)
	}
	if len(n.Kids) == 0 {
		return t.span
	}
	alone := len(n.Kids) == 1
	from := w.number(n.Kids[0])
	to := from + 1
	if !alone {
		to = w.number(n.Kids[1])
	}
	if from < 0 || from >= to || to > t.count {
		refuse(api.ErrRange, n.At)
	}
	return span{first: t.first + from, count: to - from, alone: alone}
}

// one is the qubit or bit that a reference names, which must be a single one.
func (w *weaver) one(n api.Node, kind int) int {
	s := w.reference(n, kind)
	if !s.alone {
		refuse(api.ErrType, n.At)
	}
	return s.first
}
