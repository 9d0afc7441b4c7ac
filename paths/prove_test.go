package paths_test

import (
	"fmt"
	"slices"
	"strings"
	"testing"

	"qloom/api"
	"qloom/lower"
	"qloom/paths"
	"qloom/state"
)

// proved: does Prove say that two circuits do the same? Its steps are done one after
// the other, on the sum of c with d's Inverse behind it, and must leave nothing.
func proved(t *testing.T, c, d api.Circuit) bool {
	t.Helper()
	steps, ok := prove(t, c, d)
	if !ok {
		equal(t, "no steps", len(steps), 0)
		return false
	}
	s := of(t, then(t, c, inverse(t, d)))
	for _, p := range steps {
		s = step(t, s, p.Rule, p.Y, p.Z)
	}
	equal(t, "what is left", s, nothing(c.Qubits))
	return true
}

// same: do two circuits do the same, from every basis state?
func same(t *testing.T, c, d api.Circuit) bool {
	t.Helper()
	a, f := state.Matrix(c)
	b, g := state.Matrix(d)
	equal(t, "Matrix", []api.Fault{f, g}, []api.Fault{none, none})
	return slices.EqualFunc(a, b, slices.Equal)
}

func TestProofsOfTheExamples(t *testing.T) {
	fork, not := "h 0", "x 0"
	one := func(lines ...string) api.Circuit { return circuit(t, append([]string{"qubits 1 bits 0"}, lines...)...) }
	equal(t, "h p h is x", proved(t, one(fork, "p 8 0", fork), one(not)), true)
	equal(t, "h p h is not nothing", proved(t, one(fork, "p 8 0", fork), one()), false)
	equal(t, "h h is nothing", proved(t, one(fork, fork), one()), true)
	steps, _ := prove(t, one(fork, fork), one())
	equal(t, "by one step", len(steps), 1)
	equal(t, "h is not nothing", proved(t, one(fork), one()), false)
	equal(t, "h is h", proved(t, one(fork), one(fork)), true)
	equal(t, "h p h and its own", proved(t, one(fork, "p 4 0", fork), one("phase 2", "p 12 0", fork, "p 12 0")), true)
	twin := circuit(t, "qubits 2 bits 0", "h 0", "x 1 on 0")
	equal(t, "twin and its inverse", proved(t, then(t, twin, inverse(t, twin)), api.Circuit{Qubits: 2}), true)
}

// Circuits that are known to do the same.
func TestKnownProofs(t *testing.T) {
	for _, test := range []struct {
		qubits int
		c, d   string
	}{
		{1, "", ""},
		{12, "", ""},
		{1, "phase 3, phase 13", ""},
		{1, "p 3 0, p 13 0", "phase 0"},
		{1, "x 0, p 3 0, x 0", "phase 3, p 13 0"},
		{1, "h 0, x 0, h 0", "p 8 0"},
		{1, "h 0", "phase 14, p 4 0, h 0, p 4 0, h 0, p 4 0"},
		{1, "h 0, p 4 0, h 0, p 4 0, h 0, p 4 0", "phase 2"},
		{2, "x 1 on 0, x 0 on 1, x 1 on 0", "x 0 on 1, x 1 on 0, x 0 on 1"},
		{2, "h 0, h 1, x 1 on 0, h 0, h 1", "x 0 on 1"},
		{2, "h 1, x 1 on 0, h 1", "h 0, x 0 on 1, h 0"},
		{2, "h 0, x 1 on 0, x 0 on 1, x 1 on 0", "x 1 on 0, x 0 on 1, x 1 on 0, h 1"},
		{2, "h 0, h 1, h 1, h 0, x 1 on 0, h 0, x 1 on 0, h 1, h 1, x 1 on 0, h 0, x 1 on 0", ""},
		{3, "x 0 on 2, h 1, x 2 on 1, p 12 0, p 12 1, h 0, h 1, h 0, h 1, p 4 1, p 4 0, x 2 on 1, h 1, x 0 on 2, h 0, h 2, h 2, h 0", ""},
		{3, "x 0 on 1 2, x 0 on 2 1", ""},
		{3, "h 0, x 0 on 1 2, h 0", "h 1, x 1 on 0 2, h 1"},
		{3, "x 1 on 0, x 2 on 1, x 1 on 0, x 2 on 1", "x 2 on 0"},
		{1, "h 0, p 2 0, h 0, h 0, p 14 0, h 0", ""},
		{2, "p 2 0, x 1 on 0, p 1 1, h 1, h 1, p 15 1, x 1 on 0", "p 2 0"},
	} {
		lines := func(text string) api.Circuit {
			if text == "" {
				return api.Circuit{Qubits: test.qubits}
			}
			return circuit(t, append([]string{fmt.Sprintf("qubits %d bits 0", test.qubits)}, strings.Split(text, ", ")...)...)
		}
		c, d := lines(test.c), lines(test.d)
		equal(t, test.c+" is "+test.d, proved(t, c, d), true)
		equal(t, test.d+" is "+test.c, proved(t, d, c), true)
		for _, more := range []string{"phase 1", "phase 8", "x 0", "h 0", "p 4 0", "p 8 0", "p 1 0"} {
			equal(t, "and not with more", proved(t, then(t, c, lines(more)), d), false)
		}
	}
}

// All circuits of few gates, each held to each.
func TestAllShortCircuits(t *testing.T) {
	grow := func(qubits, length int, lines ...string) []api.Circuit {
		gates := circuit(t, append([]string{fmt.Sprintf("qubits %d bits 0", qubits)}, lines...)...).Ops
		all := []api.Circuit{{Qubits: qubits}}
		last := all
		for range length {
			var next []api.Circuit
			for _, c := range last {
				for _, op := range gates {
					next = append(next, api.Circuit{Qubits: qubits, Ops: append(slices.Clone(c.Ops), op)})
				}
			}
			all = append(all, next...)
			last = next
		}
		return all
	}
	for _, all := range [][]api.Circuit{
		grow(1, 4, "h 0", "p 4 0", "phase 2"), grow(1, 3, "h 0", "p 4 0", "p 12 0", "x 0", "phase 1"),
		grow(2, 2, "h 0", "h 1", "x 0 on 1", "x 1 on 0", "p 4 0", "p 8 1", "x 1", "phase 8"), grow(2, 3, "h 0", "h 1", "x 0 on 1", "x 1 on 0"),
	} {
		texts := make([]string, len(all))
		for i, c := range all {
			rows, _ := state.Matrix(c)
			texts[i] = fmt.Sprint(rows)
		}
		likes := 0
		for i, c := range all {
			for j, d := range all {
				_, ok := prove(t, c, d)
				if ok != (texts[i] == texts[j]) {
					t.Fatalf("%s and %s: %t", short(c), short(d), ok)
				}
				if ok && i != j {
					likes++
				}
			}
		}
		equal(t, "some are alike", likes > 10, true)
	}
}

// rewritten does the same as a plain circuit, by other gates, with so many Hs more.
func (n *noise) rewritten(c api.Circuit, more int) api.Circuit {
	h := func(q int) api.Op { return api.Op{Kind: api.H, Q: q} }
	s := func(q, k int) api.Op { return api.Op{Kind: api.P, K: k, Q: q} }
	out := api.Circuit{Qubits: c.Qubits, Bits: c.Bits}
	for _, op := range c.Ops {
		q, p, k := op.Q, n.below(c.Qubits), 4*n.below(4)
		around := []api.Op{s(p, k), s(p, (16-k)%16)}
		ops := []api.Op{op}
		switch {
		case more >= 2 && n.below(4) == 0:
			around = []api.Op{h(p), h(p)}
			more -= 2
		case p != q && n.below(2) == 0:
			around = slices.Repeat([]api.Op{{Kind: api.X, Q: q, Ctl: []int{p}}}, 2)
		}
		switch {
		case op.Kind == api.X && len(op.Ctl) == 0 && more >= 2:
			ops = []api.Op{h(q), s(q, 8), h(q)}
			more -= 2
		case op.Kind == api.X && len(op.Ctl) == 1 && more >= 4:
			ops = []api.Op{h(q), h(op.Ctl[0]), {Kind: api.X, Q: op.Ctl[0], Ctl: []int{q}}, h(op.Ctl[0]), h(q)}
			more -= 4
		case op.Kind == api.H && more >= 1:
			ops = []api.Op{{Kind: api.Phase, K: 14}, s(q, 4), h(q), s(q, 4), h(q), s(q, 4)}
			more--
		case op.Kind == api.P:
			ops = []api.Op{{Kind: api.X, Q: q}, s(q, (16-op.K)%16), {Kind: api.Phase, K: op.K}, {Kind: api.X, Q: q}}
		}
		out.Ops = append(append(append(out.Ops, around[0]), around[1]), ops...)
	}
	return out
}

// Two circuits with as many Hs as may be, on all numbers of qubits: the same, by other
// gates, and no more the same when a gate comes to one of them.
func TestProofsOfPlainCircuits(t *testing.T) {
	for qubits := 1; qubits <= 12; qubits++ {
		t.Run(fmt.Sprint(qubits), func(t *testing.T) {
			t.Parallel()
			for i := range 60 {
				n := noise(1000*qubits + i)
				n.holdPlain(t, qubits)
			}
		})
	}
}

func (n *noise) holdPlain(t *testing.T, qubits int) {
	t.Helper()
	room := 22 - qubits
	c := n.plain(qubits, 10+n.below(60), room/2-n.below(3))
	d := n.rewritten(c, room-2*forks(c))
	equal(t, "no more Hs than may be", forks(c)+forks(d) <= room, true)
	equal(t, short(c), proved(t, c, d), true)
	equal(t, short(c), proved(t, d, c), true)
	undone := then(t, c, inverse(t, d))
	at := n.below(len(undone.Ops))
	turned := api.Circuit{Qubits: qubits, Ops: slices.Concat(undone.Ops[at:], undone.Ops[:at])}
	equal(t, short(turned), proved(t, turned, api.Circuit{Qubits: qubits}), true)
	for _, op := range []api.Op{{Kind: api.Phase, K: 1 + n.below(15)}, {Kind: api.X, Q: n.below(qubits)}, {Kind: api.P, K: 4 + 4*n.below(3), Q: n.below(qubits)}} {
		e := api.Circuit{Qubits: qubits, Ops: slices.Insert(slices.Clone(d.Ops), n.below(len(d.Ops)), op)}
		equal(t, short(e), proved(t, c, e), false)
	}
}

// Circuits without order, held to what they do.
func TestProofsAreJustWhereCircuitsAreTheSame(t *testing.T) {
	likes := 0
	for i := range 4000 {
		n := noise(300000 + i)
		qubits := 1 + n.below(3)
		c := n.plain(qubits, n.below(5), 4)
		d := n.plain(qubits, n.below(5), 4)
		if i%2 == 0 {
			d = n.rewritten(c, 6)
			if i%4 == 0 && len(d.Ops) > 0 {
				d.Ops = slices.Delete(d.Ops, 0, 1+n.below(min(3, len(d.Ops))))
			}
		}
		want := same(t, c, d)
		equal(t, short(c)+short(d), proved(t, c, d), want)
		if want {
			likes++
		}
	}
	equal(t, "some are alike", likes > 1000 && likes < 3000, true)
}

// What follows: what is proved is so, whatever the circuits are.
func TestWhatIsProvedIsSo(t *testing.T) {
	yes := 0
	for i := range 1500 {
		n := noise(500000 + i)
		qubits := 1 + n.below(4)
		c := n.circuit(qubits, n.below(12), 5)
		d := copyCircuit(c)
		switch {
		case len(d.Ops) == 0:
		case i%3 == 0:
			d = n.circuit(qubits, n.below(4), 3)
		case i%3 == 1:
			d.Ops = slices.Delete(d.Ops, 0, 1)
		}
		if _, _, f := paths.Prove(c, d); f != none {
			equal(t, "too many", f.Code, api.ErrMany)
			continue
		}
		ok := proved(t, c, d)
		equal(t, short(c)+short(d), ok && !same(t, c, d), false)
		if ok {
			yes++
		}
	}
	equal(t, "many are proved", yes > 400, true)
}

// A circuit with its Inverse behind it, and a circuit and itself: though it isn't asked
// for, where turns are finer, short ones are proved.
func TestCircuitsAndTheirInverses(t *testing.T) {
	for i := range 300 {
		n := noise(700000 + i)
		qubits := 1 + n.below(6)
		c := n.circuit(qubits, 12, 4)
		both := then(t, c, inverse(t, c))
		equal(t, short(c), proved(t, both, api.Circuit{Qubits: qubits}), true)
		equal(t, short(c), proved(t, c, c), true)
	}
}

// Circuits of which many steps find no room: those that do are done none the less as
// they are told.
func TestProofsWithLittleRoom(t *testing.T) {
	yes := 0
	for i := range 120 {
		n := noise(800000 + i)
		qubits := 3 + n.below(4)
		c := n.circuit(qubits, 90, 20)
		d := copyCircuit(c)
		d.Ops = slices.DeleteFunc(d.Ops, func(op api.Op) bool { return op.Kind == api.P && op.K == 0 })
		if _, _, f := paths.Prove(c, d); f != none {
			equal(t, "too many", f.Code, api.ErrMany)
		} else if proved(t, c, d) {
			yes++
		}
	}
	equal(t, "many are proved", yes > 25, true)
}

// An operation with controls, and its basic gates.
func TestBasicGatesAreProved(t *testing.T) {
	for _, lines := range [][]string{{"x 2 on 0 1"}, {"x 1 on 2 0", "h 1", "x 0 on 1 2"}, {"h 0", "x 2 on 0 1", "p 3 2", "x 2 on 0 1", "h 0"}} {
		c := circuit(t, append([]string{"qubits 3 bits 0"}, lines...)...)
		d, f := lower.Base(c)
		equal(t, "Base", f, none)
		equal(t, short(lines), proved(t, c, d), true)
		equal(t, short(lines), proved(t, d, c), true)
		d.Ops = d.Ops[1:]
		equal(t, short(lines), proved(t, d, c), false)
	}
}

func TestFaultsOfProofs(t *testing.T) {
	good := circuit(t, "qubits 2 bits 1", "h 0", "x 1 on 0")
	many := api.Circuit{Qubits: 1, Ops: slices.Repeat([]api.Op{{Kind: api.H}}, 51)}
	bad := []api.Circuit{{}, {Qubits: 13}, {Qubits: 2, Bits: 13}, {Qubits: 2, Ops: make([]api.Op, 4097)}, {Qubits: 2, Ops: []api.Op{{Kind: api.X}, {}}},
		circuit(t, "qubits 2 bits 1", "h 0", "measure 0 to 0"), circuit(t, "qubits 2 bits 1", "h 0", "x 0 if 0"), circuit(t, "qubits 2 bits 0", "x 0", "h 1", "h 0 on 1"), many}
	for i, c := range bad {
		_, f := paths.Of(c)
		equal(t, "Of has a fault", f != none, true)
		refusedProof(t, "the first", c, good, f)
		refusedProof(t, "the second", good, c, f)
		for _, d := range bad[i:] {
			refusedProof(t, "both", c, d, f)
		}
	}
	refusedProof(t, "qubits", good, api.Circuit{Qubits: 3, Bits: 1}, fault(api.ErrShape, 0))
	refusedProof(t, "bits", good, api.Circuit{Qubits: 2, Bits: 2}, fault(api.ErrShape, 0))
	_, ok := prove(t, good, good)
	equal(t, "bits alike", ok, true)
}

func TestLongProofs(t *testing.T) {
	long := func(ops int) api.Circuit {
		return api.Circuit{Qubits: 2, Ops: slices.Repeat([]api.Op{{Kind: api.X, Q: 1, Ctl: []int{0}}}, ops)}
	}
	equal(t, "as long as may be", proved(t, long(2048), long(2048)), true)
	equal(t, "as long as may be", proved(t, long(4096), long(0)), true)
	refusedProof(t, "one more", long(2048), long(2049), fault(api.ErrLong, 0))
	refusedProof(t, "one more", long(4096), long(1), fault(api.ErrLong, 0))
	refusedProof(t, "ErrShape comes first", long(4096), api.Circuit{Qubits: 3, Ops: long(4096).Ops}, fault(api.ErrShape, 0))
	forks := slices.Repeat([]api.Op{{Kind: api.H}}, 40)
	refusedProof(t, "ErrLong comes ahead of ErrMany", api.Circuit{Qubits: 2, Ops: slices.Concat(forks, long(4000).Ops)}, api.Circuit{Qubits: 2, Ops: slices.Concat(forks, long(100).Ops)}, fault(api.ErrLong, 0))
}

// Each fits, and both together don't: At is the operation's number in both.
func TestTooManyTogether(t *testing.T) {
	forks := func(count int) api.Circuit {
		return api.Circuit{Qubits: 2, Ops: slices.Repeat([]api.Op{{Kind: api.H}, {Kind: api.X, Q: 1}}, count)}
	}
	equal(t, "fifty Hs", proved(t, forks(26), forks(24)), true)
	equal(t, "fifty Hs", proved(t, forks(0), forks(50)), true)
	refusedProof(t, "one more", forks(26), forks(25), fault(api.ErrMany, 101))
	refusedProof(t, "one more", forks(50), forks(1), fault(api.ErrMany, 101))
	refusedProof(t, "more", forks(50), forks(50), fault(api.ErrMany, 101))
	terms := full()
	one := api.Circuit{Qubits: 12, Ops: []api.Op{{Kind: api.X}, {Kind: api.Phase, K: 3}, {Kind: api.X, Q: 1}}}
	refusedProof(t, "one term more", terms, one, fault(api.ErrMany, len(terms.Ops)+1))
	products := api.Circuit{Qubits: 12, Ops: gather(24)}
	refusedProof(t, "one product more", products, one, fault(api.ErrMany, len(products.Ops)+2))
}

// As many operations as may be, of outputs as long as they get.
func TestProofsOfLongPlainCircuits(t *testing.T) {
	for _, qubits := range []int{1, 2, 11, 12} {
		n := noise(qubits)
		c := n.plain(qubits, 2048, (22-qubits)/2)
		equal(t, "long", proved(t, c, c), true)
		d := copyCircuit(c)
		d.Ops[1000] = api.Op{Kind: api.Phase, K: 8}
		if c.Ops[1000].Kind != api.Phase {
			_, ok := prove(t, c, d)
			equal(t, "and not with another gate", ok, false)
		}
	}
}
