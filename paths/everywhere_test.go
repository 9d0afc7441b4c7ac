package paths_test

import (
	"fmt"
	"math"
	"reflect"
	"slices"
	"sync"
	"testing"

	"qloom/api"
	"qloom/paths"
)

// told is what a call answers; the parts that it doesn't have are zero.
type told struct {
	sum   api.Sum
	list  []string
	steps []api.Step
	yes   bool
	fault api.Fault
}

func toldSum(s api.Sum, f api.Fault) told { return told{sum: s, fault: f} }

func toldList(list []string, f api.Fault) told { return told{list: list, fault: f} }

func toldProof(steps []api.Step, yes bool, f api.Fault) told {
	return told{steps: steps, yes: yes, fault: f}
}

// ofSum makes all calls of a sum, ofCircuits all calls of circuits.
func ofSum(s api.Sum, in int, p api.Step) []told {
	return []told{{fault: paths.Check(s)}, toldList(paths.Amps(s, in)), toldSum(paths.Step(s, p))}
}

func ofCircuits(c, d api.Circuit) []told {
	return []told{toldSum(paths.Of(c)), toldSum(paths.Of(d)), toldProof(paths.Prove(c, d))}
}

// holdFaults holds answers to what is said of all of them: a fault stands alone, a sum
// has none, and no steps stand beside false.
func holdFaults(t *testing.T, answers []told) {
	t.Helper()
	for _, a := range answers {
		switch {
		case a.fault != none:
			equal(t, "with a fault", a, told{fault: a.fault})
		case a.sum.In > 0:
			equal(t, "a sum", paths.Check(a.sum), none)
		}
		equal(t, "steps", len(a.steps) > 0 && !a.yes, false)
	}
}

// Each call is made twice, with the same arguments: it must end, must not panic, and
// must say the same; the arguments must be what they were.
func TestCallsOfSumsHangOnTheirArgumentsAlone(t *testing.T) {
	for i := range 6000 {
		n := noise(i)
		d, p := n.ripe(1+n.below(4), 1+n.below(3), 2+n.below(4), n.below(9)-4)
		s := d.sum()
		in := n.below(1 << s.In)
		if i%3 == 0 {
			n.spoil(&s)
			*[]*int{&p.Rule, &p.Y, &p.Z, &in}[n.below(4)] = n.odd()
		}
		before := copySum(s)
		first, second := ofSum(s, in, p), ofSum(s, in, p)
		if !reflect.DeepEqual(first, second) {
			t.Errorf("two answers of %s: %s and %s", short(s), short(first), short(second))
		}
		if !reflect.DeepEqual(s, before) {
			t.Errorf("changed: %s, was %s", short(s), short(before))
		}
		holdFaults(t, first)
	}
}

func TestCallsOfCircuitsHangOnTheirArgumentsAlone(t *testing.T) {
	for i := range 1500 {
		n := noise(20000 + i)
		qubits := 1 + n.below(12)
		c, d := n.circuit(qubits, n.below(30), 9), n.circuit(qubits, n.below(30), 9)
		if i%2 == 0 {
			d = copyCircuit(c)
		}
		if i%3 == 0 {
			n.spoilCircuit(&c)
			n.spoilCircuit(&d)
		}
		before, beside := copyCircuit(c), copyCircuit(d)
		first, second := ofCircuits(c, d), ofCircuits(c, d)
		if !reflect.DeepEqual(first, second) {
			t.Errorf("two answers of %s and %s: %s and %s", short(c), short(d), short(first), short(second))
		}
		if !reflect.DeepEqual([]api.Circuit{c, d}, []api.Circuit{before, beside}) {
			t.Errorf("changed: %s and %s", short(c), short(d))
		}
		holdFaults(t, first)
	}
}

// spoilCircuit puts an odd number into some place of a circuit.
func (n *noise) spoilCircuit(c *api.Circuit) {
	if len(c.Ops) == 0 || n.below(5) == 0 {
		*[]*int{&c.Qubits, &c.Bits}[n.below(2)] = n.odd()
		return
	}
	op := &c.Ops[n.below(len(c.Ops))]
	switch n.below(6) {
	case 0, 1, 2, 3:
		*[]*int{&op.Kind, &op.K, &op.Q, &op.Bit}[n.below(4)] = n.odd()
	case 4:
		op.Ctl = append(slices.Clone(op.Ctl), n.odd())
	case 5:
		op.If = append(slices.Clone(op.If), n.odd())
	}
}

func TestZeroValues(t *testing.T) {
	for _, answer := range ofSum(api.Sum{}, 0, api.Step{}) {
		equal(t, "no sum", answer, told{fault: fault(api.ErrQubits, 0)})
	}
	for _, answer := range ofCircuits(api.Circuit{}, api.Circuit{}) {
		equal(t, "no circuit", answer, told{fault: fault(api.ErrQubits, 0)})
	}
	equal(t, "no step", toldSum(paths.Step(nothing(1), api.Step{})), told{fault: fault(api.ErrKind, 0)})
	equal(t, "the least sum", toldList(paths.Amps(api.Sum{In: 1, Out: make([][][]int, 1)}, 1)), told{list: []string{"1", "0"}})
	equal(t, "the least circuits", toldProof(paths.Prove(api.Circuit{Qubits: 1}, api.Circuit{Qubits: 1})), told{yes: true})
	equal(t, "the least circuit", toldSum(paths.Of(api.Circuit{Qubits: 1})), told{sum: nothing(1)})
}

// Odd numbers in all places at once.
func TestOddSums(t *testing.T) {
	n := noise(5)
	for range 30000 {
		s := api.Sum{In: n.odd(), Vars: n.odd(), Half: n.odd()}
		if n.below(8) > 0 {
			s.In, s.Vars, s.Half = 1+n.below(3), n.below(4), n.below(3)
			s.Out = make([][][]int, s.In)
		}
		for range n.below(3) {
			s.Phase = append(s.Phase, api.Term{K: n.odd(), Vars: make([]int, n.below(3))})
			for i := range s.Phase[0].Vars {
				s.Phase[0].Vars[i] = n.odd()
			}
		}
		p := api.Step{Rule: n.odd(), Y: n.odd(), Z: n.odd()}
		answers := ofSum(s, n.odd(), p)
		equal(t, short(s), answers[0].fault, modelCheck(s))
		holdFaults(t, answers)
	}
}

// Lists of great length are refused in no time, also those that stand in many places.
func TestLongLists(t *testing.T) {
	long := make([]int, 1<<20)
	for i := range long {
		long[i] = i
	}
	wide := slices.Repeat([][]int{long}, 1<<12)
	for _, test := range []struct {
		s    api.Sum
		want api.Fault
	}{
		{api.Sum{In: 1, Vars: 50, Out: [][][]int{{long}}}, fault(api.ErrForm, 0)},
		{api.Sum{In: 1, Vars: 50, Out: [][][]int{wide}}, fault(api.ErrMany, 0)},
		{api.Sum{In: 1, Vars: 50, Out: [][][]int{wide[:24]}}, fault(api.ErrForm, 0)},
		{api.Sum{In: 1, Vars: 50, Out: slices.Repeat([][][]int{wide}, 1<<12)}, fault(api.ErrShape, 0)},
		{api.Sum{In: 1, Vars: 50, Out: [][][]int{nil}, Phase: slices.Repeat([]api.Term{{K: 1, Vars: long}}, 1<<12)}, fault(api.ErrMany, 1)},
		{api.Sum{In: 1, Vars: 50, Out: [][][]int{nil}, Phase: slices.Repeat([]api.Term{{K: 1, Vars: long}}, 300)}, fault(api.ErrForm, 1)},
	} {
		for _, answer := range ofSum(test.s, 0, api.Step{Rule: api.RuleDrop, Y: 1}) {
			equal(t, "long", answer, told{fault: test.want})
		}
	}
}

// mended has nil lists in place of those without elements, or empty ones with room.
func mended(s api.Sum, empty bool) api.Sum {
	s = copySum(s)
	list := func(list []int) []int {
		switch {
		case len(list) > 0:
			return list
		case empty:
			return make([]int, 0, 3)
		}
		return nil
	}
	for i := range s.Phase {
		s.Phase[i].Vars = list(s.Phase[i].Vars)
	}
	for q := range s.Out {
		for j := range s.Out[q] {
			s.Out[q][j] = list(s.Out[q][j])
		}
		if len(s.Out[q]) == 0 {
			s.Out[q] = map[bool][][]int{false: nil, true: make([][]int, 0, 2)}[empty]
		}
	}
	if len(s.Phase) == 0 {
		s.Phase = map[bool][]api.Term{false: nil, true: {}}[empty]
	}
	return s
}

func TestListsMayBeNilOrEmpty(t *testing.T) {
	for i := range 500 {
		n := noise(i)
		d, p := n.ripe(1+n.below(4), 1+n.below(3), 2+n.below(3), 0)
		s := d.sum()
		want := ofSum(s, 0, p)
		equal(t, short(s), ofSum(mended(s, true), 0, p), want)
		equal(t, short(s), ofSum(mended(s, false), 0, p), want)
	}
	bare := circuit(t, "qubits 2 bits 0", "h 0", "x 1", "p 3 1", "phase 2", "h 0")
	empty := copyCircuit(bare)
	for i := range empty.Ops {
		bare.Ops[i].Ctl, bare.Ops[i].If = nil, nil
		empty.Ops[i].Ctl, empty.Ops[i].If = []int{}, make([]int, 0, 4)
	}
	equal(t, "nil or empty", ofCircuits(empty, bare), ofCircuits(bare, empty))
	equal(t, "nil or empty", ofCircuits(api.Circuit{Qubits: 1, Ops: []api.Op{}}, api.Circuit{Qubits: 1}), ofCircuits(api.Circuit{Qubits: 1}, api.Circuit{Qubits: 1}))
}

// numbers are the lists of numbers of an answer, up to the end of their room.
func (a told) numbers() [][]int {
	var out [][]int
	for _, term := range a.sum.Phase[:cap(a.sum.Phase)] {
		out = append(out, term.Vars[:cap(term.Vars)])
	}
	for _, list := range a.sum.Out[:cap(a.sum.Out)] {
		for _, product := range list[:cap(list)] {
			out = append(out, product[:cap(product)])
		}
	}
	return out
}

// spoil writes into all that the lists of an answer can reach.
func (a told) spoil() {
	for _, list := range a.numbers() {
		for i := range list {
			list[i] = -77
		}
	}
	for _, list := range a.sum.Out {
		for i := range list[:cap(list)] {
			list[:cap(list)][i] = []int{-77}
		}
	}
	clear(a.sum.Phase[:cap(a.sum.Phase)])
	clear(a.sum.Out[:cap(a.sum.Out)])
	clear(a.list[:cap(a.list)])
	clear(a.steps[:cap(a.steps)])
}

// holdNew holds an answer to sharing no memory within itself, nor with what is
// answered next.
func holdNew(t *testing.T, again func() []told) {
	t.Helper()
	want := fmt.Sprint(again())
	for i, answer := range again() {
		seen := map[*int]bool{}
		outs := map[*[]int]bool{}
		for _, list := range answer.numbers() {
			for j := range list {
				if seen[&list[j]] {
					t.Fatalf("call %d: two lists share memory", i)
				}
				seen[&list[j]] = true
			}
		}
		for _, list := range answer.sum.Out {
			for j := range list[:cap(list)] {
				if outs[&list[:cap(list)][j]] {
					t.Fatalf("call %d: two outputs share memory", i)
				}
				outs[&list[:cap(list)][j]] = true
			}
		}
		answer.spoil()
		equal(t, "what is answered next", fmt.Sprint(again()), want)
	}
}

func TestAnswersAreNewMemory(t *testing.T) {
	for i := range 400 {
		n := noise(i)
		d, p := n.ripe(1+n.below(4), 1+n.below(3), 2+n.below(3), 0)
		s := d.sum()
		before := copySum(s)
		holdNew(t, func() []told { return ofSum(s, 0, p) })
		equal(t, "what was handed in", s, before)
		c, e := n.circuit(3, 15, 4), n.circuit(3, 15, 4)
		if i%2 == 0 {
			e = copyCircuit(c)
		}
		kept, beside := copyCircuit(c), copyCircuit(e)
		holdNew(t, func() []told { return ofCircuits(c, e) })
		equal(t, "what was handed in", []api.Circuit{c, e}, []api.Circuit{kept, beside})
	}
}

// Of what is handed in nothing is kept: writing into it later changes no answer.
func TestArgumentsAreNotKept(t *testing.T) {
	for i := range 300 {
		n := noise(i)
		d, p := n.ripe(1+n.below(4), 1+n.below(3), 2+n.below(3), 0)
		mine := d.sum()
		got := ofSum(mine, 0, p)
		told{sum: mine}.spoil()
		equal(t, "kept", got, ofSum(d.sum(), 0, p))
		c := n.circuit(3, 15, 4)
		other := copyCircuit(c)
		answers := ofCircuits(other, other)
		for i := range other.Ops {
			for j := range other.Ops[i].Ctl {
				other.Ops[i].Ctl[j] = -77
			}
			other.Ops[i] = api.Op{Kind: -77}
		}
		equal(t, "kept", answers, ofCircuits(c, c))
	}
}

// Lists of a sum that is handed in may share memory.
func TestSharedListsAreOnlyRead(t *testing.T) {
	shared := []int{0, 1, 2, 3}
	s := api.Sum{In: 2, Vars: 2, Phase: []api.Term{{K: 8, Vars: shared[2:3]}, {K: 1, Vars: shared[:2]}, {K: 8, Vars: shared[2:]}}, Out: [][][]int{{shared[:1], shared[:2]}, {shared[3:], shared[:2]}}}
	equal(t, "shared", step(t, s, api.RulePair, 2, 3), sum(0, -2, "1 v0v1", "v0 + v0v1", "1 + v0v1"))
	equal(t, "what was handed in", shared, []int{0, 1, 2, 3})
}

// Behind the end of a list that is handed in there may be room: it is neither read nor
// written into.
func TestRoomBehindListsIsLeftAlone(t *testing.T) {
	for i := range 300 {
		n := noise(i)
		d, p := n.ripe(1+n.below(4), 1+n.below(3), 2+n.below(3), 0)
		s := d.sum()
		roomy := copySum(s)
		roomy.Phase = append(roomy.Phase, api.Term{K: 88, Vars: []int{88}})
		for q, list := range roomy.Out {
			roomy.Out[q] = append(list, []int{88})
			for j, product := range list {
				roomy.Out[q][j] = append(product, 88)
			}
		}
		roomy.Out = append(roomy.Out, [][]int{{88}})
		for i, term := range roomy.Phase {
			roomy.Phase[i].Vars = append(term.Vars, 88)
		}
		before := copySum(roomy)
		cut := api.Sum{In: s.In, Vars: s.Vars, Half: s.Half, Phase: slices.Clone(roomy.Phase[:len(s.Phase)]), Out: slices.Clone(roomy.Out[:s.In])}
		for i := range cut.Phase {
			cut.Phase[i].Vars = cut.Phase[i].Vars[:len(s.Phase[i].Vars)]
		}
		for q := range cut.Out {
			cut.Out[q] = slices.Clone(cut.Out[q][:len(s.Out[q])])
			for j := range cut.Out[q] {
				cut.Out[q][j] = cut.Out[q][j][:len(s.Out[q][j])]
			}
		}
		equal(t, short(s), ofSum(cut, 0, p), ofSum(s, 0, p))
		equal(t, "behind the lists", roomy, before)
	}
}

// Many at once: no call touches what another one does.
func TestCallsAtTheSameTime(t *testing.T) {
	n := noise(3)
	d, p := n.ripe(api.RulePair, 3, 4, 0)
	s, c := d.sum(), n.circuit(3, 20, 6)
	sums, circuits := fmt.Sprint(ofSum(s, 1, p)), fmt.Sprint(ofCircuits(c, c))
	var all sync.WaitGroup
	for range 16 {
		all.Go(func() {
			for range 10 {
				equal(t, "sums", fmt.Sprint(ofSum(s, 1, p)), sums)
				equal(t, "circuits", fmt.Sprint(ofCircuits(c, c)), circuits)
			}
		})
	}
	all.Wait()
}

// What is answered does not hang on the order in which a map is gone through: also of
// great circuits all times are the same.
func TestProofsAreTheSameEachTime(t *testing.T) {
	for i := range 6 {
		n := noise(80 + i)
		c := n.circuit(5+i, 60, 18)
		want := fmt.Sprint(ofCircuits(c, c))
		for range 12 {
			equal(t, "each time", fmt.Sprint(ofCircuits(c, c)), want)
		}
	}
}

func TestFarNumbers(t *testing.T) {
	for _, n := range []int{math.MinInt64, math.MaxInt64, 1 << 62, -1 << 62, 1 << 32, 63, 64, 65} {
		holdFaults(t, ofSum(sum(2, 0, "8 v1v2", "v0"), n, api.Step{Rule: n, Y: n, Z: n}))
		for rule := 1; rule <= 4; rule++ {
			holdFaults(t, ofSum(sum(2, 0, "8 v1v2", "v0"), n, api.Step{Rule: rule, Y: n, Z: n}))
			holdFaults(t, ofSum(sum(2, 0, "8 v1v2", "v0"), n, api.Step{Rule: rule, Y: 1, Z: n}))
		}
	}
}
