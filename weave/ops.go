package weave

import (
	"slices"

	"qloom/api"
)

// turns is how many turns by a sixteenth are a whole one.
const turns = 16

// sixteenths is a turn of less than a whole one that is the same.
func sixteenths(k int) int { return (k%turns + turns) % turns }

// put adds an operation that is done where the conditions hold, whatever the
// controls are. Its own list of controls is kept: it must be new.
func (w *weaver) put(op api.Op) {
	op.If = slices.Clone(w.conditions)
	w.ops = append(w.ops, op)
}

// putGate adds a gate that is done where the controls are 1, and its own ones too.
func (w *weaver) putGate(op api.Op) {
	op.Ctl = slices.Concat(w.controls, op.Ctl)
	w.put(op)
}

// turn turns by k where the qubit is 1.
func (w *weaver) turn(q, k int) {
	if k = sixteenths(k); k != 0 {
		w.putGate(api.Op{Kind: api.P, K: k, Q: q})
	}
}

// turnAll turns all amplitudes by k. Where there are controls, these are those in
// which the last of them is 1.
func (w *weaver) turnAll(k int) {
	k = sixteenths(k)
	last := len(w.controls) - 1
	switch {
	case k == 0:
	case last < 0:
		w.put(api.Op{Kind: api.Phase, K: k})
	default:
		w.put(api.Op{Kind: api.P, K: k, Q: w.controls[last], Ctl: slices.Clone(w.controls[:last])})
	}
}

// turnOverAndBack is Y: an X between two turns. Without the X these undo each
// other, so that it alone needs the controls.
func (w *weaver) turnOverAndBack(q int) {
	w.put(api.Op{Kind: api.P, K: 12, Q: q})
	w.putGate(api.Op{Kind: api.X, Q: q})
	w.put(api.Op{Kind: api.P, K: 4, Q: q})
}

// exchange is swap: of its three Xs the one in the middle alone needs the controls.
func (w *weaver) exchange(a, b int) {
	w.put(api.Op{Kind: api.X, Q: a, Ctl: []int{b}})
	w.putGate(api.Op{Kind: api.X, Q: b, Ctl: []int{a}})
	w.put(api.Op{Kind: api.X, Q: a, Ctl: []int{b}})
}

// undone are operations that undo gates.
func undone(ops []api.Op) []api.Op {
	var out []api.Op
	for _, op := range slices.Backward(ops) {
		op.K = sixteenths(-op.K)
		op.Ctl, op.If = slices.Clone(op.Ctl), slices.Clone(op.If)
		out = append(out, op)
	}
	return out
}
