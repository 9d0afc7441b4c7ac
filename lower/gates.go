package lower

import (
	"math/bits"
	"slices"

	"qloom/api"
	"qloom/circ"
)

// turns is how many turns by a sixteenth are a whole one.
const turns = 16

// builder makes the list of basic gates.
type builder struct {
	spare int // the first spare qubit
	ops   []api.Op
}

// lower adds operations that do what op does; none, if it turns by nothing. Its
// conditions stand at the turns alone: where these are left out, all that is around
// them undoes itself.
func (b *builder) lower(op api.Op) {
	switch {
	case isBasic(op):
		op.Ctl, op.If = slices.Clone(op.Ctl), slices.Clone(op.If)
		b.ops = append(b.ops, op)
	case angle(op) != 0:
		b.between(around(op), func() {
			b.joined(slices.Concat(op.Ctl, []int{op.Q}), wanted(op), func(left []int) {
				b.turnWhereAll(left, angle(op), op.If)
			})
		})
	}
}

// isBasic: may the operation stay as it is?
func isBasic(op api.Op) bool {
	return len(op.Ctl) == 0 || len(op.Ctl) == 1 && op.Kind == api.X
}

// around are gates between which, and what undoes them, a turn is the operation.
func around(op api.Op) []api.Op {
	switch op.Kind {
	case api.X:
		return []api.Op{fork(op.Q)}
	case api.H:
		return []api.Op{turn(op.Q, 4), fork(op.Q), turn(op.Q, 2), fork(op.Q)}
	}
	return nil
}

// between adds gates, what the body adds, and what undoes the gates.
func (b *builder) between(gates []api.Op, body func()) {
	b.ops = append(b.ops, gates...)
	body()
	b.ops = append(b.ops, undone(gates)...)
}

// undone are gates that undo others.
func undone(gates []api.Op) []api.Op {
	back, _ := circ.Inverse(api.Circuit{Qubits: api.MaxQubits, Ops: gates})
	return back.Ops
}

// joined adds what the body adds of qubits that are all 1 just where these are: so
// often two of them are joined into a spare one.
func (b *builder) joined(qubits []int, times int, body func(left []int)) {
	if times == 0 {
		body(qubits)
		return
	}
	spare := b.spare + times - 1
	b.between(join(qubits[0], qubits[1], spare), func() {
		b.joined(slices.Concat(qubits[2:], []int{spare}), times-1, body)
	})
}

// join are gates that bring a spare qubit from 0 to 1 where p and q are 1. Beside
// that they turn some basis states: those turns go when the gates are undone, if
// what is done till then are turns alone.
func join(p, q, spare int) []api.Op {
	return []api.Op{
		fork(spare), turn(spare, 2), flip(spare, q), turn(spare, 14),
		flip(spare, p), turn(spare, 2), flip(spare, q), turn(spare, 14), fork(spare),
	}
}

// turnWhereAll turns by k where all of the qubits are 1: by a part of k for each sum
// of an odd number of them, and by as much back for each of an even number.
func (b *builder) turnWhereAll(qubits []int, k int, conditions []int) {
	part := k >> (len(qubits) - 1)
	for i, q := range qubits {
		b.turnSums(q, qubits[:i], part, conditions)
	}
}

// turnSums turns the sums of q and all choices of others, by k and by -k in turn:
// from each sum to the next one of the others comes or goes, and in the end the last
// one that is left goes, too.
func (b *builder) turnSums(q int, others []int, k int, conditions []int) {
	for i := range 1 << len(others) {
		op := turn(q, k)
		op.If = slices.Clone(conditions)
		b.ops = append(b.ops, op)
		if len(others) > 0 {
			next := min(bits.TrailingZeros(uint(i+1)), len(others)-1)
			b.ops = append(b.ops, flip(q, others[next]))
		}
		k = -k
	}
}

// turn is a P without controls.
func turn(q, k int) api.Op { return api.Op{Kind: api.P, K: (k + turns) % turns, Q: q} }

// fork is an H without controls.
func fork(q int) api.Op { return api.Op{Kind: api.H, Q: q} }

// flip is an X with one control.
func flip(q, control int) api.Op { return api.Op{Kind: api.X, Q: q, Ctl: []int{control}} }
