package weave

import (
	"maps"
	"slices"

	"qloom/api"
)

func (w *weaver) statement(n api.Node) {
	w.spend(1, n.At)
	switch n.Kind {
	case api.NApply:
		w.apply(n)
	case api.NFor:
		w.loop(n)
	case api.NWhen:
		w.when(n)
	case api.NIf:
		w.choose(n)
	case api.NMeasure:
		w.measure(n)
	case api.NReset:
		w.reset(n)
	case api.NWithin:
		w.within(n)
	case api.NFlip:
		w.flip(n)
	default:
		refuse(api.ErrKind, n.At)
	}
}

func (w *weaver) block(n api.Node) {
	for _, statement := range n.Kids {
		w.statement(statement)
	}
}

func (w *weaver) loop(n api.Node) {
	from := w.number(kid(n, 0))
	to := w.number(kid(n, 1))
	outer := w.setting
	w.hiding = withRoom(outer.hiding)
	for i := from; i < to; i++ {
		w.spend(1, n.At)
		w.hiding[n.Name] = thing{kind: aNumber, number: i}
		w.block(kid(n, 2))
	}
	w.setting = outer
}

// withRoom is a map of the same names, to which others can be added.
func withRoom(names map[string]thing) map[string]thing {
	out := map[string]thing{}
	maps.Copy(out, names)
	return out
}

func (w *weaver) when(n api.Node) {
	if w.number(kid(n, 0)) != 0 {
		w.block(kid(n, 1))
	}
}

// refuseInGates refuses a statement that is none of gates where nothing else may stand.
func (w *weaver) refuseInGates(n api.Node) {
	if w.pure {
		refuse(api.ErrUnitary, n.At)
	}
}

// choose works both blocks through: which of them is done hangs on a bit that only
// a run knows.
func (w *weaver) choose(n api.Node) {
	w.refuseInGates(n)
	holds := w.one(kid(n, 0), someBits) + 1
	if n.N == 1 {
		holds = -holds
	}
	w.blockIf(holds, kid(n, 1))
	w.blockIf(-holds, kid(n, 2))
}

// blockIf works a block through that is done where a condition holds.
func (w *weaver) blockIf(condition int, n api.Node) {
	outer := w.setting
	if !slices.Contains(outer.conditions, condition) {
		w.conditions = slices.Concat(outer.conditions, []int{condition})
	}
	w.block(n)
	w.setting = outer
}

// isAsked: does a condition hang on that bit?
func (w *weaver) isAsked(bit int) bool {
	return slices.Contains(w.conditions, bit+1) || slices.Contains(w.conditions, -(bit+1))
}

func (w *weaver) measure(n api.Node) {
	w.refuseInGates(n)
	from := w.reference(kid(n, 0), someQubits)
	to := w.reference(kid(n, 1), someBits)
	if from.count != to.count {
		refuse(api.ErrSize, n.At)
	}
	for bit := range to.all() {
		if w.isAsked(bit) {
			refuse(api.ErrBit, kid(n, 1).At)
		}
	}
	w.spend(from.count, n.At)
	for q := range from.all() {
		w.put(api.Op{Kind: api.Measure, Q: q, Bit: to.first + q - from.first})
	}
}

func (w *weaver) reset(n api.Node) {
	w.refuseInGates(n)
	qubits := w.reference(kid(n, 0), someQubits)
	w.spend(qubits.count, n.At)
	for q := range qubits.all() {
		w.put(api.Op{Kind: api.Reset, Q: q})
	}
}

// within does the first block without the controls: where one of them is 0, it is
// undone with nothing in between.
func (w *weaver) within(n api.Node) {
	outer, start, before := w.setting, len(w.ops), w.steps
	w.pure, w.controls = true, nil
	w.block(kid(n, 0))
	w.setting = outer
	behind, steps := undone(w.ops[start:]), w.steps-before
	w.block(kid(n, 1))
	w.spend(steps, n.At)
	w.ops = append(w.ops, behind...)
}
